/- Pairs compared. -/
import Derived.Test.YtlhdjbnilfbaoaaFew
namespace Go.Proofs.Ytlhdjbnilfbaoaa
open Go.RowKit
set_option linter.unusedVariables false
theorem part_id (w : World) (p : List Int) (off : Nat) : (part 42 (V8 p) off).run Try.prog w = .ok (.agg (V8 ((p.drop off).take 20))) w := by
  have hagg : (isAgg 42).run Try.prog w = .ok true w := by kernel_rfl
  obtain ⟨i, hi, h1⟩ := Option.map_eq_some_iff.1 (show (Try.prog.info? 42).map (·.size) = some 20 from by kernel_rfl)
  have e : (V8 p).extract off (off + 20) = V8 ((p.drop off).take 20) := by
    apply Array.ext'
    simp [V8, U8, List.map_drop, List.map_take]
  simp [part, hagg, sizeOf, typeInfo, hi, h1, e]
theorem part_id24 (w : World) (p : List Int) (off : Nat) : (part 41 (V8 p) off).run Try.prog w = .ok (.agg (V8 ((p.drop off).take 20))) w := by
  have hagg : (isAgg 41).run Try.prog w = .ok true w := by kernel_rfl
  obtain ⟨i, hi, h1⟩ := Option.map_eq_some_iff.1 (show (Try.prog.info? 41).map (·.size) = some 20 from by kernel_rfl)
  have e : (V8 p).extract off (off + 20) = V8 ((p.drop off).take 20) := by
    apply Array.ext'
    simp [V8, U8, List.map_drop, List.map_take]
  simp [part, hagg, sizeOf, typeInfo, hi, h1, e]
theorem halves (p q : List Int) (hp : p.length = 40) (hq : q.length = 40) : ((p.take 20 == q.take 20) && (p.drop 20 == q.drop 20)) = (p == q) := by
  rw [Bool.eq_iff_iff, Bool.and_eq_true, beq_iff_eq, beq_iff_eq, beq_iff_eq]
  constructor
  · rintro ⟨h1, h2⟩
    rw [← List.take_append_drop 20 p, ← List.take_append_drop 20 q, h1, h2]
  · rintro rfl; exact ⟨rfl, rfl⟩
theorem fields_pair : ∃ f1 f2, (Try.prog.fieldsOf 46).toList = [f1, f2] ∧ f1.name ≠ "_" ∧ f2.name ≠ "_" ∧ f1.type = 42 ∧ f1.offset = 0 ∧ f2.type = 42 ∧ f2.offset = 20 := by
  have h : (Try.prog.fieldsOf 46).toList.map (fun f => (f.name == "_", f.type, f.offset)) = [(false, 42, 0), (false, 42, 20)] := by kernel_rfl
  generalize (Try.prog.fieldsOf 46).toList = l at *
  match l, h with
  | [], h => cases h
  | [_], h => simp at h
  | _ :: _ :: _ :: _, h => simp at h
  | [f1, f2], h =>
    simp only [List.map_cons, List.map_nil, List.cons.injEq, Prod.mk.injEq, and_true, beq_eq_false_iff_ne] at h
    exact ⟨f1, f2, rfl, h.1.1, h.2.1, h.1.2.1, h.1.2.2, h.2.2.1, h.2.2.2⟩
theorem equal_pair (w : World) (p q : List Int) (hp : p.length = 40) (hq : q.length = 40) : (Op.equalIn 10000 46 (.agg (V8 p)) (.agg (V8 q))).run Try.prog w = .ok (p == q) w := by
  obtain ⟨f1, f2, hf, n1, n2, t1, o1, t2, o2⟩ := fields_pair
  have e1 : ((p.drop 0).take 20 == (q.drop 0).take 20) = (p.take 20 == q.take 20) := by rw [List.drop_zero, List.drop_zero]
  have e2 : ((p.drop 20).take 20) = p.drop 20 := List.take_of_length_le (by rw [List.length_drop]; omega)
  have e3 : ((q.drop 20).take 20) = q.drop 20 := List.take_of_length_le (by rw [List.length_drop]; omega)
  rw [run_equalIn_struct w 9999 46 (V8 p) (V8 q) Try.underlying46 (by kernel_rfl), hf]
  simp only [Op.eqFields, n1, n2, t1, o1, t2, o2, ne_eq, not_false_eq_true, if_true, Sem.run_bind, part_id, Result.andThen_ok, List.drop_zero]
  rw [mrun_equalIn_arr w 9997 42 20 Try.underlying42 _ _ (take20_len hp) (take20_len hq)]
  rw [← halves p q hp hq]
  cases h1 : (p.take 20 == q.take 20)
  · simp
  · rw [Result.andThen_ok]
    simp only [Bool.not_true, Bool.false_eq_true, if_false, Sem.run_bind, part_id, Result.andThen_ok, e2, e3]
    rw [mrun_equalIn_arr w 9997 42 20 Try.underlying42 _ _ (drop20_len hp) (drop20_len hq)]
    cases h2 : (p.drop 20 == q.drop 20) <;> simp
theorem eql_pair (w : World) (p q : List Int) (hp : p.length = 40) (hq : q.length = 40) : (binOp .eql 46 (.agg (V8 p)) (.agg (V8 q))).run Try.prog w = .ok (.bool (p == q)) w := by
  rw [run_eql_struct, equal_pair w p q hp hq]
  rfl
theorem fields_rpair : ∃ f1 f2, (Try.prog.fieldsOf 44).toList = [f1, f2] ∧ f1.name ≠ "_" ∧ f2.name ≠ "_" ∧ f1.type = 41 ∧ f1.offset = 0 ∧ f2.type = 41 ∧ f2.offset = 20 := by
  have h : (Try.prog.fieldsOf 44).toList.map (fun f => (f.name == "_", f.type, f.offset)) = [(false, 41, 0), (false, 41, 20)] := by kernel_rfl
  generalize (Try.prog.fieldsOf 44).toList = l at *
  match l, h with
  | [], h => cases h
  | [_], h => simp at h
  | _ :: _ :: _ :: _, h => simp at h
  | [f1, f2], h =>
    simp only [List.map_cons, List.map_nil, List.cons.injEq, Prod.mk.injEq, and_true, beq_eq_false_iff_ne] at h
    exact ⟨f1, f2, rfl, h.1.1, h.2.1, h.1.2.1, h.1.2.2, h.2.2.1, h.2.2.2⟩
theorem equal_rpair (w : World) (p q : List Int) (hp : p.length = 40) (hq : q.length = 40) : (Op.equalIn 10000 44 (.agg (V8 p)) (.agg (V8 q))).run Try.prog w = .ok (p == q) w := by
  obtain ⟨f1, f2, hf, n1, n2, t1, o1, t2, o2⟩ := fields_rpair
  have e1 : ((p.drop 0).take 20 == (q.drop 0).take 20) = (p.take 20 == q.take 20) := by rw [List.drop_zero, List.drop_zero]
  have e2 : ((p.drop 20).take 20) = p.drop 20 := List.take_of_length_le (by rw [List.length_drop]; omega)
  have e3 : ((q.drop 20).take 20) = q.drop 20 := List.take_of_length_le (by rw [List.length_drop]; omega)
  rw [run_equalIn_struct w 9999 44 (V8 p) (V8 q) Try.underlying44 (by kernel_rfl), hf]
  simp only [Op.eqFields, n1, n2, t1, o1, t2, o2, ne_eq, not_false_eq_true, if_true, Sem.run_bind, part_id24, Result.andThen_ok, List.drop_zero]
  rw [mrun_equalIn_arr w 9997 41 20 Try.underlying41 _ _ (take20_len hp) (take20_len hq)]
  rw [← halves p q hp hq]
  cases h1 : (p.take 20 == q.take 20)
  · simp
  · rw [Result.andThen_ok]
    simp only [Bool.not_true, Bool.false_eq_true, if_false, Sem.run_bind, part_id24, Result.andThen_ok, e2, e3]
    rw [mrun_equalIn_arr w 9997 41 20 Try.underlying41 _ _ (drop20_len hp) (drop20_len hq)]
    cases h2 : (p.drop 20 == q.drop 20) <;> simp
theorem eql_rpair (w : World) (p q : List Int) (hp : p.length = 40) (hq : q.length = 40) : (binOp .eql 44 (.agg (V8 p)) (.agg (V8 q))).run Try.prog w = .ok (.bool (p == q)) w := by
  rw [run_eql_struct, equal_rpair w p q hp hq]
  rfl
theorem neq_pair (w : World) (p q : List Int) (hp : p.length = 40) (hq : q.length = 40) : (binOp .neq 46 (.agg (V8 p)) (.agg (V8 q))).run Try.prog w = .ok (.bool (!(p == q))) w := by
  rw [run_neq_struct, equal_pair w p q hp hq]
  rfl
theorem neq_rpair (w : World) (p q : List Int) (hp : p.length = 40) (hq : q.length = 40) : (binOp .neq 44 (.agg (V8 p)) (.agg (V8 q))).run Try.prog w = .ok (.bool (!(p == q))) w := by
  rw [run_neq_struct, equal_rpair w p q hp hq]
  rfl
theorem run_neq_id (w : World) (xs ys : List Int) (hx : xs.length = 20) (hy : ys.length = 20) :
    (binOp .neq 42 (.agg (V8 xs)) (.agg (V8 ys))).run Try.prog w = .ok (.bool (!(xs == ys))) w := by
  rw [run_neq_struct, mrun_equalIn_arr w 9998 42 20 Try.underlying42 xs ys hx hy]
  rfl
theorem run_eql_id24 (w : World) (xs ys : List Int) (hx : xs.length = 20) (hy : ys.length = 20) :
    (binOp .eql 41 (.agg (V8 xs)) (.agg (V8 ys))).run Try.prog w = .ok (.bool (xs == ys)) w := by
  rw [run_eql_struct, mrun_equalIn_arr w 9998 41 20 Try.underlying41 xs ys hx hy]
  rfl
end Go.Proofs.Ytlhdjbnilfbaoaa
