/- Texts of sums, with a byte changed. -/
import Derived.Test.YtcbjadecocggjaaDoorParse
import Derived.Test.YtcbjadecocggjaaDoorV8
import Derived.Lib.ConvBytes
namespace Go.Proofs.YtcbjadecocggjaaDoor
open Go.RowKit Plain
set_option linter.unusedVariables false
theorem goodTo_at (s : ByteArray) (k i : Nat) (h : goodTo s k = true) (hi : i < k) : 0 ≤ nib (at8 s (2 * i)) ∧ 0 ≤ nib (at8 s (2 * i + 1)) := by
  unfold goodTo at h
  rw [List.all_eq_true] at h
  have := h i (List.mem_range.2 hi)
  simpa using this
theorem isHex_at (s : ByteArray) (h : isHex s = true) (j : Nat) (hj : j < 40) : 0 ≤ nib (at8 s j) := by
  simp [isHex] at h
  have := goodTo_at s 20 (j / 2) h.2 (by omega)
  rcases Nat.mod_two_eq_zero_or_one j with e | e
  · rw [show j = 2 * (j / 2) by omega]; exact this.1
  · rw [show j = 2 * (j / 2) + 1 by omega]; exact this.2
theorem isHex_of (s : ByteArray) (h40 : s.size = 40) (h : ∀ j, j < 40 → 0 ≤ nib (at8 s j)) : isHex s = true := by
  simp only [isHex, h40, decide_true, Bool.true_and]
  unfold goodTo
  rw [List.all_eq_true]
  intro i hi
  have := List.mem_range.1 hi
  simp [h (2 * i) (by omega), h (2 * i + 1) (by omega)]
theorem isHex_size (s : ByteArray) (h : s.size ≠ 40) : isHex s = false := by simp [isHex, h]
theorem isHex_bad (s : ByteArray) (j : Nat) (hj : j < 40) (h : nib (at8 s j) < 0) : isHex s = false := by
  cases hs : isHex s
  · rfl
  · have := isHex_at s hs j hj; omega
/-- A text's digits as numbers. -/
def hexN (ids : List Int) : List Int := ids.flatMap fun x => [(hexD (x.toNat / 16) : Int), (hexD (x.toNat % 16) : Int)]
theorem hexD_le (n : Nat) (h : n < 16) : (48 ≤ hexD n ∧ hexD n ≤ 57) ∨ (97 ≤ hexD n ∧ hexD n ≤ 102) := by unfold hexD; split <;> omega
theorem hexN_mem (ids : List Int) (hb : ∀ x ∈ ids, 0 ≤ x ∧ x ≤ 255) : ∀ y ∈ hexN ids, (48 ≤ y ∧ y ≤ 57) ∨ (97 ≤ y ∧ y ≤ 102) := by
  intro y hy
  obtain ⟨x, hx, hy⟩ := List.mem_flatMap.1 hy
  have h := hb x hx
  simp only [List.mem_cons, List.not_mem_nil, or_false] at hy
  rcases hy with rfl | rfl
  · have := hexD_le (x.toNat / 16) (by omega); omega
  · have := hexD_le (x.toNat % 16) (by omega); omega
theorem hexN_text (ids : List Int) (hb : ∀ x ∈ ids, 0 ≤ x ∧ x ≤ 255) : strOfNums (hexN ids) = ⟨(hexOf ids).toArray⟩ := by
  unfold strOfNums hexN hexOf
  rw [List.map_flatMap]
  rfl
theorem hexN_length (ids : List Int) : (hexN ids).length = 2 * ids.length := by
  induction ids with
  | nil => rfl
  | cons x t ih => simp [hexN] at ih ⊢; omega
theorem at8_nums (xs : List Int) (hb : ∀ x ∈ xs, 0 ≤ x ∧ x ≤ 255) (j : Nat) (hj : j < xs.length) : (at8 (strOfNums xs) j : Int) = xs[j]?.getD 0 := by
  unfold at8
  rw [strOfNums_data, List.getElem?_map, List.getElem?_eq_getElem hj]
  have := hb _ (List.getElem_mem hj)
  simp only [Option.map_some, Option.getD_some, UInt8.toNat_ofNat']
  omega
theorem nib_good (c : Nat) (h : (48 ≤ (c : Int) ∧ (c : Int) ≤ 57) ∨ (97 ≤ (c : Int) ∧ (c : Int) ≤ 102)) : 0 ≤ nib c := by
  unfold nib; split <;> (try split) <;> omega
theorem nib_great (c : Nat) (h : 65 ≤ (c : Int) ∧ (c : Int) ≤ 70) : nib c < 0 := by
  unfold nib; split <;> (try split) <;> omega
theorem hex_good (ids : List Int) (h20 : ids.length = 20) (hb : ∀ x ∈ ids, 0 ≤ x ∧ x ≤ 255) : isHex (strOfNums (hexN ids)) = true := by
  have hl : (hexN ids).length = 40 := by rw [hexN_length, h20]
  have hm := hexN_mem ids hb
  have hb' : ∀ x ∈ hexN ids, 0 ≤ x ∧ x ≤ 255 := fun x hx => by have := hm x hx; omega
  refine isHex_of _ (by rw [strOfNums_size, hl]) fun j hj => nib_good _ ?_
  rw [at8_nums _ hb' j (by omega), List.getElem?_eq_getElem (by omega)]
  exact hm _ (List.getElem_mem _)
theorem set_bad (xs : List Int) (hb : ∀ x ∈ xs, 0 ≤ x ∧ x ≤ 255) (hl : xs.length = 40) (k : Nat) (hk : k < 40) (y : Int) (hy : 65 ≤ y ∧ y ≤ 70) : isHex (strOfNums (xs.set k y)) = false := by
  have hb' : ∀ x ∈ xs.set k y, 0 ≤ x ∧ x ≤ 255 := fun x hx => by
    rcases List.mem_or_eq_of_mem_set hx with h | h
    · exact hb x h
    · omega
  refine isHex_bad _ k hk (nib_great _ ?_)
  rw [at8_nums _ hb' k (by rw [List.length_set]; omega), List.getElem?_set_self (by omega)]
  exact hy
theorem parsedE_bad (s : ByteArray) (h : isHex s = false) : parsedE s = 4 := by simp [parsedE, h]
theorem parsedE_good (s : ByteArray) (h : isHex s = true) : parsedE s = 0 := by simp [parsedE, h]
/-- '[]byte(s)' of a text. -/
theorem conv_text (xs : List Int) (hb : ∀ x ∈ xs, 0 ≤ x ∧ x ≤ 255) (w : World) : ∃ c w', (convert 9 38 (.string (strOfNums xs))).run Tryd.prog w = .ok (.slice (some ⟨w.heap.size, 0, none⟩) xs.length c) w' ∧ Below w.heap.size w w' ∧ w'.heap.size = w.heap.size + 1 ∧
    (∀ j, j < xs.length → w'.cell? ⟨w.heap.size, j, none⟩ = some (.int .u8 (xs[j]?.getD 0))) ∧ (∀ j, j < xs.length → w'.frozen? ⟨w.heap.size, j, none⟩ = false) ∧ xs.length ≤ c := by
  have hsz : (strOfNums xs).size = xs.length := strOfNums_size xs
  have hle : xs.length ≤ grownCap w (strOfNums xs).size 0 5 := by
    rw [hsz]; exact grownCap_ge w _ _ _
  refine ⟨_, _, by rw [← hsz]; exact Lib.run_convert_string_bytes w 9 38 5 (strOfNums xs) Tryd.underlying9 Tryd.underlying38 Tryd.underlying5, ?_, Lib.bytesWorld_size _ _ _, ?_, ?_, hle⟩
  · exact ⟨by unfold Lib.bytesWorld World.freeze; split <;> rfl, by unfold Lib.bytesWorld World.freeze; split <;> rfl, by unfold Lib.bytesWorld World.freeze; split <;> rfl, by rw [Lib.bytesWorld_size]; omega, fun i hi => Lib.bytesWorld_at_old w _ _ i hi⟩
  · intro j hj
    rw [Lib.bytesWorld_cell w _ _ j (by rw [hsz]; exact hj), strOfNums_data]
    have := hb _ (List.getElem_mem hj)
    simp [hj]
    omega
  · intro j hj
    simp [World.frozen?, Lib.bytesWorld_at_new, Lib.bytesCells]
    omega
theorem Bytes.set {w : World} {g m : Nat} {xs : List Int} (h : Bytes w (some ⟨g, 0, none⟩) m xs) (k : Nat) (hk : k < m) (v : Int) (hv : 0 ≤ v ∧ v ≤ 255) : Bytes (w.setCell ⟨g, k, none⟩ (.int .u8 v)) (some ⟨g, 0, none⟩) m (xs.set k v) := by
  obtain ⟨h1, h2, h3, h4 | ⟨b, o, he, hc⟩⟩ := h
  · omega
  · simp only [Option.some.injEq, Addr.mk.injEq] at he
    obtain ⟨rfl, rfl, -⟩ := he
    refine ⟨by rw [List.length_set]; exact h1, h2, fun j => ?_, .inr ⟨g, 0, rfl, fun j hj => ?_⟩⟩
    · by_cases hjk : k = j
      · subst hjk; rw [List.getElem?_set_self (by omega)]; exact hv
      · rw [List.getElem?_set_ne hjk]; exact h3 j
    · by_cases hjk : k = j
      · subst hjk
        rw [List.getElem?_set_self (by omega), Nat.zero_add]
        have := hc k hk
        rw [Nat.zero_add] at this
        exact World.cell?_setCell_same (w := w) (a := ⟨g, k, none⟩) (v := .int .u8 v) this
      · rw [List.getElem?_set_ne hjk, ← hc j hj]
        exact World.cell?_setCell_other (w := w) (a := ⟨g, k, none⟩) (b := ⟨g, 0 + j, none⟩) (v := .int .u8 v) (fun e => hjk (by injection e with _ e2; omega))
def boxed (w : World) (p : List Int) : World := (w.alloc (.cells (V8 zeros20) 30)).setRow w.heap.size (V8 p)
theorem boxed_below {B : Nat} {w0 w : World} (h : Below B w0 w) (hB : B ≤ w0.heap.size) (p : List Int) : Below B w0 (boxed w p) :=
  below_setRow (h.alloc (Nat.le_trans hB h.size) _) (Nat.le_trans hB h.size) _
theorem boxed_heap (w : World) (p : List Int) : (boxed w p).heap[w.heap.size]? = some (.cells (V8 p) 30 (0, 0)) := setRow_heap _ _ _ _ _ _ (heap_alloc_new w _)
theorem text_one (w : World) (x : Int) (hx : 0 ≤ x ∧ x ≤ 255) : (convert 38 9 (.slice (some ⟨w.heap.size, 0, none⟩) 1 1)).run Tryd.prog (w.alloc (.cells #[.int .u8 x] 5)) = .ok (.string (strOfNums [x])) (w.alloc (.cells #[.int .u8 x] 5)) :=
  text_run _ _ 1 1 [x] (Bytes.lit w w.heap.size rfl [x] 5 (0, 0) 1 rfl (by omega) (by simpa using hx))
end Go.Proofs.YtcbjadecocggjaaDoor
