/- Sums as texts, there and back. -/
import Derived.Test.YtcbjadecocggjaaDoorRefParse
namespace Go.Proofs.YtcbjadecocggjaaDoor
open Go.RowKit Plain
set_option linter.unusedVariables false
theorem wpList_load_row_g {P : Program} {ops : Array Oper} {rest : List Oper} {o : Oper} {a : Act} {w : World} {Q : Exit → Act → World → Prop} (hw : Region.wanted o (yielded ops a.tmps) = true) (ty : TypeId) (x : Operand) (ho : o.op = .load ty x)
    (g : Nat) (hx : a.eval x = .pointer (some ⟨g, 0, none⟩)) (t : TypeId) (cs : Array Value) (fr : Nat × Nat) (d : TypeDesc) (hg : w.heap[g]? = some (.cells cs t fr))
    (hu : P.underlying ty = some d) (hd : (match d with | .struct _ | .array _ _ => true | _ => false) = true) (hi : (P.info? ty).map (·.size) = some cs.size)
    (h : wpList P ops Q rest (a.put o.dst (.agg cs)) w) : wpList P ops Q (o :: rest) a w := by
  unfold wpList
  rw [if_pos hw]
  exact .inl (wp_load_row ty x ho g hx t cs fr d hg hu hd hi h)
theorem hexN_at (ids : List Int) (i : Nat) (h : i < ids.length) : (hexN ids)[2 * i]? = some (hexD ((ids[i]?.getD 0).toNat / 16) : Int) ∧ (hexN ids)[2 * i + 1]? = some (hexD ((ids[i]?.getD 0).toNat % 16) : Int) := by
  induction ids generalizing i with
  | nil => simp at h
  | cons x t ih =>
    have e : hexN (x :: t) = (hexD (x.toNat / 16) : Int) :: (hexD (x.toNat % 16) : Int) :: hexN t := rfl
    rw [e]
    cases i with
    | zero => simp
    | succ i =>
      have := ih i (by simpa using h)
      rw [show 2 * (i + 1) = (2 * i) + 1 + 1 by omega, show (2 * i) + 1 + 1 + 1 = (2 * i + 1) + 1 + 1 by omega]
      simpa using this
theorem parsed_hex (ids : List Int) (h20 : ids.length = 20) (hb : ∀ x ∈ ids, 0 ≤ x ∧ x ≤ 255) : parsed (strOfNums (hexN ids)) = ids := by
  have hl : (hexN ids).length = 40 := by rw [hexN_length, h20]
  have hm := hexN_mem ids hb
  have hb' : ∀ x ∈ hexN ids, 0 ≤ x ∧ x ≤ 255 := fun x hx => by have := hm x hx; omega
  unfold parsed
  rw [if_pos (hex_good ids h20 hb)]
  apply List.ext_getElem (by rw [valsTo_length, h20])
  intro i h1 h2
  have hi : i < 20 := by omega
  simp only [valsTo, List.getElem_map, List.getElem_range, if_pos hi]
  have a0 := at8_nums _ hb' (2 * i) (by omega)
  have a1 := at8_nums _ hb' (2 * i + 1) (by omega)
  obtain ⟨q0, q1⟩ := hexN_at ids i h2
  rw [q0] at a0
  rw [q1] at a1
  rw [List.getElem?_eq_getElem h2] at a0 a1
  simp only [Option.getD_some] at a0 a1
  have hx := hb _ (List.getElem_mem h2)
  have n0 := (nib_hexD (ids[i].toNat / 16) (at8 (strOfNums (hexN ids)) (2 * i)) (by omega)).1 (by omega)
  have n1 := (nib_hexD (ids[i].toNat % 16) (at8 (strOfNums (hexN ids)) (2 * i + 1)) (by omega)).1 (by omega)
  unfold valAt
  rw [n0, n1]
  omega
theorem at8_text (s : ByteArray) (j : Nat) (h : j < s.data.toList.length) : s.data.toList[j] = UInt8.ofNat (at8 s j) := by
  unfold at8
  rw [List.getElem?_eq_getElem h]
  simp
theorem parsed_length (s : ByteArray) : (parsed s).length = 20 := by
  unfold parsed; split
  · exact valsTo_length _ _
  · simp
theorem parsed_bytes (s : ByteArray) : ∀ x ∈ parsed s, 0 ≤ x ∧ x ≤ 255 := by
  intro x hx
  unfold parsed at hx
  split at hx
  · rename_i h
    obtain ⟨i, hi, rfl⟩ := List.mem_map.1 hx
    have hi' := List.mem_range.1 hi
    rw [if_pos hi']
    have h0 := isHex_at s h (2 * i) (by omega)
    have h1 := isHex_at s h (2 * i + 1) (by omega)
    have l0 := nib_le (at8 s (2 * i))
    have l1 := nib_le (at8 s (2 * i + 1))
    unfold valAt; omega
  · rw [List.mem_replicate] at hx; omega
theorem hex_parsed (s : ByteArray) (h : isHex s = true) : (⟨(hexOf (parsed s)).toArray⟩ : ByteArray) = s := by
  have h40 : s.size = 40 := by simp [isHex] at h; exact h.1
  rw [← hexN_text _ (parsed_bytes s)]
  have hl : (hexN (parsed s)).length = 40 := by rw [hexN_length, parsed_length]
  have key : (strOfNums (hexN (parsed s))).data.toList = s.data.toList := by
    rw [strOfNums_data]
    apply List.ext_getElem (by simp [hl]; omega)
    intro j h1 h2
    rw [at8_text s j h2]
    have hj : j < 40 := by simpa [hl] using h1
    rw [List.getElem_map]
    congr 1
    have hi : j / 2 < (parsed s).length := by rw [parsed_length]; omega
    obtain ⟨q0, q1⟩ := hexN_at (parsed s) (j / 2) hi
    have hv : (parsed s)[j / 2]?.getD 0 = valAt s (j / 2) := by
      unfold parsed; rw [if_pos h]; unfold valsTo
      rw [List.getElem?_map, List.getElem?_range (by omega)]
      simp; omega
    rw [hv] at q0 q1
    have g0 := isHex_at s h (2 * (j / 2)) (by omega)
    have g1 := isHex_at s h (2 * (j / 2) + 1) (by omega)
    have l0 := nib_le (at8 s (2 * (j / 2)))
    have l1 := nib_le (at8 s (2 * (j / 2) + 1))
    have d0 := (nib_hexD (nib (at8 s (2 * (j / 2)))).toNat (at8 s (2 * (j / 2))) (by omega)).2 (by omega)
    have d1 := (nib_hexD (nib (at8 s (2 * (j / 2) + 1))).toNat (at8 s (2 * (j / 2) + 1)) (by omega)).2 (by omega)
    have v0 : (valAt s (j / 2)).toNat / 16 = (nib (at8 s (2 * (j / 2)))).toNat := by unfold valAt; omega
    have v1 : (valAt s (j / 2)).toNat % 16 = (nib (at8 s (2 * (j / 2) + 1))).toNat := by unfold valAt; omega
    rw [v0, ← d0] at q0
    rw [v1, ← d1] at q1
    rcases Nat.mod_two_eq_zero_or_one j with e | e
    · have ej : 2 * (j / 2) = j := by omega
      rw [ej] at q0
      rw [List.getElem?_eq_getElem (by omega)] at q0
      have := Option.some.inj q0
      rw [this]; simp
    · have ej : 2 * (j / 2) + 1 = j := by omega
      rw [ej] at q1
      rw [List.getElem?_eq_getElem (by omega)] at q1
      have := Option.some.inj q1
      rw [this]; simp
  exact ByteArray.ext (Array.toList_inj.1 key)
theorem eq_same (xs : List Int) (h : xs.length = 20) (w : World) : (Op.equalIn 10000 30 (.agg (V8 xs)) (.agg (V8 xs))).run Tryd.prog w = .ok true w := by
  rw [run_equalIn_arr w 30 20 Tryd.underlying30 _ _ h h]; simp
theorem eq_same24 (xs : List Int) (h : xs.length = 20) (w : World) : (Op.equalIn 10000 29 (.agg (V8 xs)) (.agg (V8 xs))).run Tryd.prog w = .ok true w := by
  rw [run_equalIn_arr w 29 20 Tryd.underlying29 _ _ h h]; simp
def boxed24 (w : World) (p : List Int) : World := (w.alloc (.cells (V8 zeros20) 29)).setRow w.heap.size (V8 p)
theorem boxed24_below {B : Nat} {w0 w : World} (h : Below B w0 w) (hB : B ≤ w0.heap.size) (p : List Int) : Below B w0 (boxed24 w p) :=
  below_setRow (h.alloc (Nat.le_trans hB h.size) _) (Nat.le_trans hB h.size) _
theorem boxed24_heap (w : World) (p : List Int) : (boxed24 w p).heap[w.heap.size]? = some (.cells (V8 p) 29 (0, 0)) := setRow_heap _ _ _ _ _ _ (heap_alloc_new w _)
theorem boxed_lt (w : World) (p : List Int) : w.heap.size < (boxed w p).heap.size := (Array.getElem?_eq_some_iff.1 (boxed_heap w p)).1
theorem boxed24_lt (w : World) (p : List Int) : w.heap.size < (boxed24 w p).heap.size := (Array.getElem?_eq_some_iff.1 (boxed24_heap w p)).1
theorem row_keep {W W' : World} {g : Nat} {o : Obj} (R : W.heap[g]? = some o) (hb : Below W.heap.size W W') : W'.heap[g]? = some o :=
  (hb.block g (Array.getElem?_eq_some_iff.1 R).1).trans R
theorem boxed_new (w : World) (p : List Int) : Below w.heap.size w (boxed w p) := boxed_below (Below.refl _ _) (Nat.le_refl _) p
theorem boxed24_new (w : World) (p : List Int) : Below w.heap.size w (boxed24 w p) := boxed24_below (Below.refl _ _) (Nat.le_refl _) p
end Go.Proofs.YtcbjadecocggjaaDoor
