/- Two arrays of bytes, compared. -/
import Derived.Test.YtcbjadecocggjaaDoorV8
import Derived.ChangeKeysEq
namespace Go.Proofs.YtcbjadecocggjaaDoor
open Go.RowKit
set_option linter.unusedVariables false
theorem u8plain : Tryd.prog.plainKey 5 = true := by kernel_rfl
theorem u8cells : Tryd.prog.cellsOf 5 = 1 := by kernel_rfl
theorem eqItems_u8 (d : Nat) (w : World) (xs ys : List Int) : ∀ is : List Nat, (∀ i ∈ is, i < xs.length ∧ i < ys.length) →
    (Op.eqItems (d + 1) 5 1 (V8 xs) (V8 ys) is).run Tryd.prog w = .ok (is.all fun i => xs[i]?.getD 0 == ys[i]?.getD 0) w
  | [], _ => by simp [Op.eqItems]
  | i :: is, h => by
    have h1 := V8_get xs i (h i (by simp)).1
    have h2 := V8_get ys i (h i (by simp)).2
    have ih := eqItems_u8 d w xs ys is (fun j hj => h j (by simp [hj]))
    simp only [Op.eqItems, Sem.run_bind, Nat.mul_one, run_part_plain w u8plain h1, run_part_plain w u8plain h2, Result.andThen_ok, run_equalIn_int w d 5 .u8 .u8 _ _ Tryd.underlying5]
    cases hxy : (xs[i]?.getD 0 == ys[i]?.getD 0)
    · simp [List.all_cons, hxy]
    · simp [List.all_cons, hxy, ih]
theorem all_eq_list (xs ys : List Int) (n : Nat) (hx : xs.length = n) (hy : ys.length = n) : ((List.range n).all fun i => xs[i]?.getD 0 == ys[i]?.getD 0) = (xs == ys) := by
  rw [Bool.eq_iff_iff, List.all_eq_true]
  constructor
  · intro h
    have : xs = ys := by
      apply List.ext_getElem (by omega)
      intro i h1 h2
      have := h i (List.mem_range.2 (by omega))
      rw [List.getElem?_eq_getElem h1, List.getElem?_eq_getElem h2] at this
      simpa using this
    simpa using this
  · intro h i _
    have : xs = ys := by simpa using h
    simp [this]
theorem run_equalIn_arr (w : World) (t : TypeId) (n : Nat) (ht : Tryd.prog.underlying t = some (.array n 5)) (xs ys : List Int) (hx : xs.length = n) (hy : ys.length = n) :
    (Op.equalIn 10000 t (.agg (V8 xs)) (.agg (V8 ys))).run Tryd.prog w = .ok (xs == ys) w := by
  obtain ⟨i, hi, -⟩ := Option.map_eq_some_iff.1 (show (Tryd.prog.info? 5).map (fun i => (i.zero, i.size, i.bytes)) = some (some (.int .u8 0), 1, 1) from by kernel_rfl)
  rw [run_equalIn_array w 9999 (V8 xs) (V8 ys) ht hi, u8cells, eqItems_u8 9998 w xs ys (List.range n) (fun j hj => by have := List.mem_range.1 hj; omega)]
  rw [all_eq_list xs ys n hx hy]
/-- 'x == y' of two arrays of bytes. -/
theorem run_eql_arr (w : World) (t : TypeId) (n : Nat) (ht : Tryd.prog.underlying t = some (.array n 5)) (xs ys : List Int) (hx : xs.length = n) (hy : ys.length = n) :
    (binOp .eql t (.agg (V8 xs)) (.agg (V8 ys))).run Tryd.prog w = .ok (.bool (xs == ys)) w := by
  rw [run_eql_struct, run_equalIn_arr w t n ht xs ys hx hy]
  rfl
end Go.Proofs.YtcbjadecocggjaaDoor
