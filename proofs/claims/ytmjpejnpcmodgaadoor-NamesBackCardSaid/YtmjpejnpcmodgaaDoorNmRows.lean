/- Slices of strings: made, set. -/
import Derived.Test.YtmjpejnpcmodgaaDoorNmWord
import Derived.Laws.MakeOwn
import Derived.Laws.OwnMore
import Derived.OpenShut
namespace Go.Proofs.YtmjpejnpcmodgaaDoor
open Go.RowKit Plain
set_option linter.unusedVariables false
/-- A slice type over an element's type of k cells. -/
def Elem (SL e : TypeId) (k by' : Nat) : Prop := Tryd.prog.underlying SL = some (.slice e) ∧ ∃ i z, Tryd.prog.info? e = some i ∧ i.zero = some z ∧ i.size = k ∧ i.bytes = by' ∧ z.cells.size = k
theorem elem_of {SL e : TypeId} {k by' : Nat} {z : Value} (hu : Tryd.prog.underlying SL = some (.slice e)) (h : (Tryd.prog.info? e).map (fun i => (i.zero, i.size, i.bytes)) = some (some z, k, by')) (hz : z.cells.size = k) : Elem SL e k by' := by
  obtain ⟨i, hi, he⟩ := Option.map_eq_some_iff.1 h
  simp only [Prod.mk.injEq] at he
  exact ⟨hu, i, z, hi, he.1, he.2.1, he.2.2, hz⟩
theorem elem_str : Elem 29 9 1 16 := elem_of (z := .string ⟨#[]⟩) Tryd.underlying29 (by kernel_rfl) rfl
theorem make_ss (k : Nat) (hk : k ≤ 1000000) (w : World) : (Instr.makeSlice 29 (.int .i64 (k : Int)) (.int .i64 (k : Int))).run Tryd.prog w = .ok (.slice (some ⟨w.heap.size, 0, none⟩) k k) (w.alloc (.cells (Lib.cellsOf [] k) 9)) := by
  obtain ⟨-, i, z, hi, hz0, hz1, hz2, hz3⟩ := elem_str
  have hzz : z = .string ByteArray.empty := by
    have h : (Tryd.prog.info? 9).map (fun i => i.zero) = some (some (.string ByteArray.empty)) := by kernel_rfl
    rw [hi] at h
    simp only [Option.map_some, Option.some.injEq] at h
    rw [hz0] at h
    exact Option.some.inj h
  subst hzz
  rw [run_make (P := Tryd.prog) w 29 9 i (.string ByteArray.empty) Tryd.underlying29 hi hz0 .i64 .i64 k k (by omega) (Int.le_refl _) (by rw [hz2]; omega) (by omega), hz1]
  have e : madeCells (Value.string ByteArray.empty).cells ((k : Int).toNat * 1) = Lib.cellsOf [] k := by
    rw [Lib.cellsOf_nil, Int.toNat_natCast, Nat.mul_one]
    rfl
  rw [e]
  rfl
theorem slice_tail (s : ByteArray) (lo : Nat) (h : lo ≤ s.size) (x : Int) (hx : x = (lo : Int)) (W : World) : (Instr.slice 9 (.string s) (some (.int .i64 x)) none none).run Tryd.prog W = .ok (.string (s.extract lo s.size)) W := by
  subst hx
  have ht := Tryd.underlying9
  simp [Instr.slice, run_underlying ht, Instr.sliceBounds, run_sliceBound, h]
theorem front_txt (l : List UInt8) (k : Nat) : (txt l).extract 0 k = txt (l.take k) := by
  apply bytes_ext
  rw [extract_list, txt_list, txt_list]
theorem tail_txt (l : List UInt8) (k : Nat) : (txt l).extract k (txt l).size = txt (l.drop k) := by
  apply bytes_ext
  rw [ByteArray.data_extract, Array.toList_extract, txt_list, txt_list, txt_size]
  rw [List.extract_eq_take_drop, List.take_of_length_le (by rw [List.length_drop]; exact Nat.le_refl _)]
/-- Texts in a row. -/
def rowS (l : List (List UInt8)) : Array Value := (l.map fun t => Value.string (txt t)).toArray
theorem rowS_get (l : List (List UInt8)) (i : Nat) : (rowS l)[i]? = l[i]?.map fun t => Value.string (txt t) := by
  unfold rowS
  rw [List.getElem?_toArray, List.getElem?_map]
theorem rowS_set (l : List (List UInt8)) (i : Nat) (t : List UInt8) : (rowS l).setIfInBounds i (.string (txt t)) = rowS (l.set i t) := by
  unfold rowS
  rw [List.setIfInBounds_toArray, List.map_set]
theorem rowS_nil (k : Nat) : Lib.cellsOf [] k = rowS (List.replicate k []) := by
  unfold Lib.cellsOf rowS
  rw [List.map_nil, List.nil_append, List.map_replicate]
  rfl
structure SRow (w : World) (g : Nat) (l : List (List UInt8)) (W : World) : Prop where
  row : W.heap[g]? = some (.cells (rowS l) 9 (0, 0))
  bel : Below w.heap.size w W
  le : w.heap.size ≤ g
theorem SRow.lt {w W : World} {g : Nat} {l : List (List UInt8)} (h : SRow w g l W) : g < W.heap.size := (Array.getElem?_eq_some_iff.1 h.row).1
theorem SRow.below {w W W' : World} {g : Nat} {l : List (List UInt8)} (h : SRow w g l W) (hb : Below W.heap.size W W') : SRow w g l W' :=
  ⟨(hb.block g h.lt).trans h.row, h.bel.trans (hb.mono h.bel.size), h.le⟩
theorem SRow.set {w W : World} {g : Nat} {l : List (List UInt8)} (h : SRow w g l W) (i : Nat) (t : List UInt8) : SRow w g (l.set i t) (W.setCell ⟨g, i, none⟩ (.string (txt t))) :=
  ⟨by rw [heap_setCell_same W g i _ _ _ h.row, rowS_set], h.bel.setCell h.le _, h.le⟩
theorem SRow.cell {w W : World} {g : Nat} {l : List (List UInt8)} (h : SRow w g l W) {i : Nat} {t : List UInt8} (ht : l[i]? = some t) : W.cell? ⟨g, i, none⟩ = some (.string (txt t)) := by
  rw [cell_of_row _ _ _ _ _ _ h.row, rowS_get, ht]; rfl
theorem join_empty : ∀ l : List (List UInt8), Lib.join l [] = l.flatten
  | [] => by rw [Lib.join_nil]; rfl
  | x :: l => by
    rw [Lib.join_cons, List.flatten_cons]
    congr 1
    unfold Lib.joinTail
    simp
/-- What strings.Join makes of a row. -/
theorem join_row (l : List (List UInt8)) (sep : List UInt8) (w W : World) (g n : Nat) (h : SRow w g l W) (hn : l.length = n) (hb : n ≤ 100000) (hl : (Lib.join l sep).length ≤ 1000000000) :
    Calls Tryd.prog 12 #[.slice (some ⟨g, 0, none⟩) n n, .string (txt sep)] W fun e w' => e = .returned (.string (txt (Lib.join l sep))) ∧ Below W.heap.size W w' := by
  have hm : (l.map txt).map (·.data.toList) = l := by
    rw [List.map_map]
    conv => rhs; rw [← List.map_id l]
    apply List.map_congr_left
    intro x hx
    exact txt_list x
  have hJ := Tryd.strings_Join g 0 n (l.map txt) (txt sep) W (fun j x hx => by
    rw [List.getElem?_map] at hx
    cases hj : l[j]? with
    | none => rw [hj] at hx; cases hx
    | some t =>
      rw [hj] at hx
      simp only [Option.map_some, Option.some.injEq] at hx
      rw [← hx, Nat.zero_add]
      exact h.cell hj) h.lt (by rw [List.length_map]; omega) (by rw [List.length_map]; omega) (by rw [hm, txt_list]; omega)
  rw [hm, txt_list, List.length_map, hn] at hJ
  exact hJ
end Go.Proofs.YtmjpejnpcmodgaaDoor
