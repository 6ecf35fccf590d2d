/- Two entries of the program compared; how many there are of one. -/
import Derived.Test.YthemolkmciofaaaDoorTzLawPrints
namespace Go.Proofs.YthemolkmciofaaaDoor
open Go.RowKit Plain
set_option linter.unusedVariables false
theorem eqItems_u8 (d : Nat) (w : World) (xs ys : List Int) : ∀ is : List Nat, (∀ i ∈ is, i < xs.length ∧ i < ys.length) →
    (Op.eqItems (d + 1) 5 1 (V8 xs) (V8 ys) is).run Tryd.prog w = .ok (is.all fun i => xs[i]?.getD 0 == ys[i]?.getD 0) w
  | [], _ => by simp [Op.eqItems]
  | i :: is, h => by
    have h1 := V8_get xs i (h i (by simp)).1
    have h2 := V8_get ys i (h i (by simp)).2
    have ih := eqItems_u8 d w xs ys is (fun j hj => h j (by simp [hj]))
    simp only [Op.eqItems, Sem.run_bind, Nat.mul_one, run_part_plain w u8plain h1, run_part_plain w u8plain h2, Result.andThen_ok, run_equalIn_int w d 5 .u8 .u8 _ _ Tryd.underlying5]
    cases hxy : (xs[i]?.getD 0 == ys[i]?.getD 0)
    · simp [List.all_cons, hxy]
    · simp [List.all_cons, hxy, ih]
theorem all_eq_list (xs ys : List Int) (n : Nat) (hx : xs.length = n) (hy : ys.length = n) : ((List.range n).all fun i => xs[i]?.getD 0 == ys[i]?.getD 0) = (xs == ys) := by
  rw [Bool.eq_iff_iff, List.all_eq_true]
  constructor
  · intro h
    have : xs = ys := by
      apply List.ext_getElem (by omega)
      intro i h1 h2
      have := h i (List.mem_range.2 (by omega))
      rw [List.getElem?_eq_getElem h1, List.getElem?_eq_getElem h2] at this
      simpa using this
    simpa using this
  · intro h i _
    have : xs = ys := by simpa using h
    simp [this]
theorem run_equalIn_arr8 (w : World) (d : Nat) (t : TypeId) (n : Nat) (ht : Tryd.prog.underlying t = some (.array n 5)) (xs ys : List Int) (hx : xs.length = n) (hy : ys.length = n) :
    (Op.equalIn (d + 2) t (.agg (V8 xs)) (.agg (V8 ys))).run Tryd.prog w = .ok (xs == ys) w := by
  obtain ⟨i, hi, -⟩ := Option.map_eq_some_iff.1 (show (Tryd.prog.info? 5).map (fun i => (i.zero, i.size, i.bytes)) = some (some (.int .u8 0), 1, 1) from by kernel_rfl)
  rw [run_equalIn_array w (d + 1) (V8 xs) (V8 ys) ht hi, u8cells, eqItems_u8 d w xs ys (List.range n) (fun j hj => by have := List.mem_range.1 hj; omega)]
  rw [all_eq_list xs ys n hx hy]
theorem eqFields_three (P : Program) (w : World) (d : Nat) (X Y : Array Value) (f1 f2 f3 : Field) (a1 b1 a2 b2 a3 b3 : Value) (r1 r2 r3 : Bool) (n1 : f1.name ≠ "_") (n2 : f2.name ≠ "_") (n3 : f3.name ≠ "_")
    (x1 : (part f1.type X f1.offset).run P w = .ok a1 w) (y1 : (part f1.type Y f1.offset).run P w = .ok b1 w)
    (x2 : (part f2.type X f2.offset).run P w = .ok a2 w) (y2 : (part f2.type Y f2.offset).run P w = .ok b2 w)
    (x3 : (part f3.type X f3.offset).run P w = .ok a3 w) (y3 : (part f3.type Y f3.offset).run P w = .ok b3 w)
    (e1 : (Op.equalIn d f1.type a1 b1).run P w = .ok r1 w) (e2 : (Op.equalIn d f2.type a2 b2).run P w = .ok r2 w) (e3 : (Op.equalIn d f3.type a3 b3).run P w = .ok r3 w) :
    (Op.eqFields d X Y [f1, f2, f3]).run P w = .ok (r1 && (r2 && r3)) w := by
  simp only [Op.eqFields, n1, n2, n3, ne_eq, not_false_eq_true, if_true, Sem.run_bind, x1, y1, e1, Result.andThen_ok]
  cases r1
  · simp
  · simp only [Bool.not_true, Bool.false_eq_true, if_false, Sem.run_bind, x2, y2, e2, Result.andThen_ok]
    cases r2
    · simp
    · simp only [Bool.not_true, Bool.false_eq_true, if_false, Sem.run_bind, x3, y3, e3, Result.andThen_ok]
      cases r3 <;> simp
set_option maxRecDepth 100000 in
theorem fields_ent : ∃ f1 f2 f3, (Tryd.prog.fieldsOf 30).toList = [f1, f2, f3] ∧ f1.name ≠ "_" ∧ f2.name ≠ "_" ∧ f3.name ≠ "_" ∧ (f1.type = 3 ∧ f1.offset = 0) ∧ (f2.type = 9 ∧ f2.offset = 1) ∧ f3.type = 28 ∧ f3.offset = 2 := by
  have h : (Tryd.prog.fieldsOf 30).toList.map (fun f => (f.name == "_", f.type, f.offset)) = [(false, 3, 0), (false, 9, 1), (false, 28, 2)] := by kernel_rfl
  generalize (Tryd.prog.fieldsOf 30).toList = l at *
  match l, h with
  | [], h => cases h
  | [_], h => simp at h
  | [_, _], h => simp at h
  | _ :: _ :: _ :: _ :: _, h => simp at h
  | [f1, f2, f3], h =>
    simp only [List.map_cons, List.map_nil, List.cons.injEq, Prod.mk.injEq, and_true, beq_eq_false_iff_ne] at h
    exact ⟨f1, f2, f3, rfl, h.1.1, h.2.1.1, h.2.2.1, h.1.2, h.2.1.2, h.2.2.2⟩
theorem part_idF (w : World) (x : TE) (h : x.n.length = 20) : (part 28 (entA x) 2).run Tryd.prog w = .ok (.agg (V8 x.n)) w := by
  have hagg : (isAgg 28).run Tryd.prog w = .ok true w := by kernel_rfl
  obtain ⟨i, hi, h1⟩ := Option.map_eq_some_iff.1 (show (Tryd.prog.info? 28).map (·.size) = some 20 from by kernel_rfl)
  have e : (entA x).extract 2 (2 + 20) = V8 x.n := by
    apply Array.ext'
    have h2 : (U8 x.n).length = 20 := by rw [U8_length]; exact h
    simp only [entA, entL, V8]
    simp
    rw [List.take_of_length_le (by omega)]
  simp [part, hagg, sizeOf, typeInfo, hi, h1, e]
/-- Are two entries the same? -/
def eqT (x y : TE) : Bool := x.k == y.k && (x.p.toList == y.p.toList && x.n == y.n)
theorem equal_ent (w : World) (d : Nat) (x y : TE) (hx : x.n.length = 20) (hy : y.n.length = 20) : (Op.equalIn (d + 4) 30 (.agg (entA x)) (.agg (entA y))).run Tryd.prog w = .ok (eqT x y) w := by
  obtain ⟨f1, f2, f3, hf, n1, n2, n3, ⟨t1, o1⟩, ⟨t2, o2⟩, t3, o3⟩ := fields_ent
  rw [run_equalIn_struct w (d + 3) 30 _ _ Tryd.underlying30 (by kernel_rfl), hf]
  exact eqFields_three Tryd.prog w (d + 3) _ _ f1 f2 f3 _ _ _ _ _ _ _ _ _ n1 n2 n3
    (by rw [t1, o1]; exact part_intF w _ 0 x.k (by simp [entA, entL])) (by rw [t1, o1]; exact part_intF w _ 0 y.k (by simp [entA, entL]))
    (by rw [t2, o2]; exact part_strF w _ 1 x.p (by simp [entA, entL])) (by rw [t2, o2]; exact part_strF w _ 1 y.p (by simp [entA, entL]))
    (by rw [t3, o3]; exact part_idF w x hx) (by rw [t3, o3]; exact part_idF w y hy)
    (by rw [t1, run_equalIn_int w (d + 2) 3 .i64 .i64 _ _ Tryd.underlying3]) (by rw [t2]; exact run_equalIn_string w (d + 2) 9 x.p y.p Tryd.underlying9)
    (by rw [t3]; exact run_equalIn_arr8 w (d + 1) 28 20 Tryd.underlying28 _ _ hx hy)
theorem eql_ent (x y : TE) (hx : x.n.length = 20) (hy : y.n.length = 20) (w : World) : (binOp .eql 30 (.agg (entA x)) (.agg (entA y))).run Tryd.prog w = .ok (.bool (eqT x y)) w := by
  rw [run_eql_struct]
  have e := equal_ent w 9996 x y hx hy
  rw [show (9996 + 4 : Nat) = 10000 from rfl] at e
  rw [e]
  rfl
theorem guard_eql (x y : Operand) (u v : Array Value) (W : World) : (eqGuard .eql 30 x y (.agg u) (.agg v)).run Tryd.prog W = .ok () W := by
  simp [eqGuard]
/-- How many of them are z? -/
def cntT (z : TE) (l : List TE) : Nat := l.countP fun x => eqT x z
theorem cnt_sort (z : TE) (l : List TE) : cntT z (sortS ltT l) = cntT z l := (sortS_perm _ l rfl).countP_eq _
theorem cnt_snoc {z : TE} {l : List TE} {k : Nat} {x : TE} (h : l[k]? = some x) : cntT z (l.take (k + 1)) = cntT z (l.take k) + (if eqT x z = true then 1 else 0) := by
  have e : l.take (k + 1) = l.take k ++ [x] := by rw [List.take_add_one, h]; rfl
  unfold cntT
  rw [e, List.countP_append, List.countP_singleton]
theorem cntT_le (z : TE) (l : List TE) : cntT z l ≤ l.length := List.countP_le_length
end Go.Proofs.YthemolkmciofaaaDoor
