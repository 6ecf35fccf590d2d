/- Where a copy came from, as an input: a text and 20 bytes. -/
import Derived.Test.YtmkhnlfhbiabcaaDoorFrom
import Derived.ChangeSame
import Derived.ChangeMaps5
namespace Go.Proofs.YtmkhnlfhbiabcaaDoor
open Go.RowKit Plain Go.ChangeShapes Go.WideShapes Go.ChangeAt
set_option linter.unusedVariables false
theorem trod_ids {H : Type} {enc : TypeId × Value → H} {w : World} {base : Nat} {held : Bool} {t : TypeId} {n fuel : Nat} {cs : List Value} {y : DataW H × List MemPlace}
    (ht : Tryd.prog.underlying t = some (.array n 5)) (hl : cs.length = n) (h : DataW.trod enc Tryd.prog w base (fun _ => true) held fuel t cs = some y) :
    ∃ zs : List Int, cs = zs.map (Value.int .u8) ∧ zs.length = n ∧ ∀ z ∈ zs, 0 ≤ z ∧ z ≤ 255 := by
  obtain ⟨xs, m, -, -, -, hxl, hget⟩ := DataW.trod_array ht h
  have hone : Tryd.prog.cellsOf 5 = 1 := by kernel_rfl
  have key : ∀ i, i < n → ∃ z : Int, cs[i]? = some (.int .u8 z) ∧ 0 ≤ z ∧ z ≤ 255 := by
    intro i hi
    have h1 := hget i hi
    rw [hone, Nat.mul_one] at h1
    have hi' : i < cs.length := by omega
    rw [List.getElem?_eq_getElem (by omega)] at h1
    have e : (List.drop i cs).take 1 = [cs[i]] := by
      rw [List.drop_eq_getElem_cons hi', List.take_succ_cons, List.take_zero]
    rw [e] at h1
    obtain ⟨z, hz, -, hw⟩ := DataW.trod_int Tryd.underlying5 h1
    exact ⟨z, by rw [List.getElem?_eq_getElem hi']; simpa using hz, bounds_u8 hw⟩
  refine ⟨(List.range n).map fun i => numOf cs[i]?, ?_, by simp, fun z hz => ?_⟩
  · apply List.ext_getElem?
    intro i
    rw [List.map_map, List.getElem?_map]
    by_cases hi : i < n
    · obtain ⟨z, hz, -⟩ := key i hi
      rw [List.getElem?_range hi, hz]
      simp [hz, numOf]
    · rw [List.getElem?_eq_none (by omega), List.getElem?_eq_none (by simp; omega)]
      rfl
  · obtain ⟨i, hi, rfl⟩ := List.mem_map.1 hz
    obtain ⟨z, hz, h0⟩ := key i (List.mem_range.1 hi)
    rw [hz]
    exact h0
theorem open_from {H : Type} {enc : TypeId × Value → H} {w : World} {base b0 : Nat} {held : Bool} {r : Reach} {v : Value} {d : DataW H} {p : List MemPlace}
    (hv : Value.okWide Tryd.prog w r b0 25 v) (h : DataW.Trod enc Tryd.prog w base (fun _ => true) held 25 v d p) :
    ∃ (P : ByteArray) (N : List Int), v = .agg (fromA P N) ∧ N.length = 20 ∧ (∀ z ∈ N, 0 ≤ z ∧ z ≤ 255) ∧ P.size ≤ maxLen := by
  have ht := Tryd.underlying25
  simp only [Value.okWide, ht] at hv
  obtain ⟨cs, rfl, hsz, -⟩ := hv
  obtain ⟨fuel, hf⟩ := h
  obtain ⟨y0, y1, n, -, hl, h0, h1⟩ := trod_struct2 ht hf
  have hC : Tryd.prog.cellsOf 25 = 21 := by kernel_rfl
  have hC0 : Tryd.prog.cellsOf 9 = 1 := by kernel_rfl
  have hC1 : Tryd.prog.cellsOf 23 = 20 := by kernel_rfl
  rw [hC] at hl hsz
  simp only [hC0] at h0
  simp only [hC1] at h1
  change cs.toList.length = 21 at hl
  change DataW.trod enc Tryd.prog w base (fun _ => true) held n 9 ((cs.toList.drop 0).take 1) = some y0 at h0
  change DataW.trod enc Tryd.prog w base (fun _ => true) held n 23 ((cs.toList.drop 1).take 20) = some y1 at h1
  obtain ⟨P, hP, -, hs⟩ := DataW.trod_string Tryd.underlying9 h0
  obtain ⟨N, hN, hNl, hNb⟩ := trod_ids Tryd.underlying23 (by rw [List.length_take, List.length_drop, hl]; rfl) h1
  refine ⟨P, N, ?_, hNl, hNb, hs⟩
  have e : cs.toList = Value.string P :: N.map (Value.int .u8) := by
    rw [List.drop_zero] at hP
    rw [List.take_of_length_le (by rw [List.length_drop, hl]; omega)] at hN
    rw [← List.take_append_drop 1 cs.toList, hP, hN]
    rfl
  unfold fromA
  rw [← e]
end Go.Proofs.YtmkhnlfhbiabcaaDoor
