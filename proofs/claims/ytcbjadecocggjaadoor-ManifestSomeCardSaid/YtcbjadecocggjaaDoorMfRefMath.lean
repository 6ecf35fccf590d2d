/- The document's reading of files: where a line ends, where its path does. -/
import Derived.Test.YtcbjadecocggjaaDoorMfParse
namespace Go.Proofs.YtcbjadecocggjaaDoor
open Go.RowKit Plain
set_option linter.unusedVariables false
theorem scan_not {l : List UInt8} {k e : Nat} {c : UInt8} (h : ∀ j, k ≤ j → j < e → l[j]? ≠ some c) : c ∉ (l.drop k).take (e - k) := fun hm => by
  obtain ⟨i, hi⟩ := List.mem_iff_getElem?.1 hm
  have hil := (List.getElem?_eq_some_iff.1 hi).1
  rw [List.length_take] at hil
  rw [List.getElem?_take_of_lt (by omega), List.getElem?_drop] at hi
  exact h (k + i) (by omega) (by omega) hi
theorem scan_split {l : List UInt8} {k e : Nat} {c : UInt8} (hk : k ≤ e) (h : l[e]? = some c) : l.drop k = (l.drop k).take (e - k) ++ c :: l.drop (e + 1) := by
  obtain ⟨hi, he⟩ := List.getElem?_eq_some_iff.1 h
  have h1 := List.take_append_drop (e - k) (l.drop k)
  rw [List.drop_drop, show k + (e - k) = e by omega, List.drop_eq_getElem_cons hi, he] at h1
  exact h1.symm
theorem no_line {l : List UInt8} {k : Nat} (h : ∀ j, k ≤ j → j < l.length → l[j]? ≠ some 10) : refOk (l.drop k) = false := by
  have hn := scan_not h
  rw [List.take_of_length_le (by rw [List.length_drop]; omega)] at hn
  unfold refOk
  rw [cut_not _ _ hn]
  rfl
theorem line_cut {l : List UInt8} {k e : Nat} (hk : k ≤ e) (h10 : l[e]? = some 10) (h : ∀ j, k ≤ j → j < e → l[j]? ≠ some 10) : Lib.cut (l.drop k) [10] = ((l.drop k).take (e - k), l.drop (e + 1), true) := by
  have := cut_at ((l.drop k).take (e - k)) (l.drop (e + 1)) 10 (scan_not h)
  rw [← scan_split hk h10] at this
  exact this
theorem no_zero {l : List UInt8} {k e : Nat} (hk : k ≤ e) (h10 : l[e]? = some 10) (h : ∀ j, k ≤ j → j < e → l[j]? ≠ some 10) (h0 : ∀ j, k ≤ j → j < e → l[j]? ≠ some 0) : refOk (l.drop k) = false := by
  have hc := line_cut hk h10 h
  have hl : rline (l.drop k) = (l.drop k).take (e - k) := by unfold rline; rw [hc]
  unfold refOk
  rw [hl, hc, cut_not _ _ (scan_not h0)]
  rfl
theorem ref_here {l : List UInt8} {k z e : Nat} (hk : k ≤ z) (hz : z < e) (h10 : l[e]? = some 10) (h : ∀ j, k ≤ j → j < e → l[j]? ≠ some 10) (hz0 : l[z]? = some 0) (h0 : ∀ j, k ≤ j → j < z → l[j]? ≠ some 0) :
    refOk (l.drop k) = (decide (40 ≤ e - (z + 1)) && isHex (txt ((l.drop (z + 1)).take 40 |>.take (e - (z + 1))))) ∧
    (40 ≤ e - (z + 1) → refIs (l.drop k) = ⟨txt ((l.drop k).take (z - k)), parsed (txt ((l.drop (z + 1)).take 40)), txt ((l.drop (z + 41)).take (e - (z + 41)))⟩) ∧ rrest (l.drop k) = l.drop (e + 1) := by
  have hc := line_cut (by omega) h10 h
  have hl : rline (l.drop k) = (l.drop k).take (e - k) := by unfold rline; rw [hc]
  have hs := scan_split hk hz0
  have e1 : (l.drop k).take (e - k) = (l.drop k).take (z - k) ++ 0 :: (l.drop (z + 1)).take (e - (z + 1)) := by
    have hle := (List.getElem?_eq_some_iff.1 hz0).1
    have hl1 : ((l.drop k).take (z - k)).length = z - k := by rw [List.length_take, List.length_drop]; omega
    conv => lhs; rw [hs]
    rw [List.take_append, hl1, List.take_of_length_le (by rw [hl1]; omega), show e - k - (z - k) = (e - (z + 1)) + 1 by omega, List.take_succ_cons]
  have hc2 := cut_at ((l.drop k).take (z - k)) ((l.drop (z + 1)).take (e - (z + 1))) 0 (scan_not h0)
  rw [← e1] at hc2
  have hp : rpath (l.drop k) = (l.drop k).take (z - k) := by unfold rpath; rw [hl, hc2]
  have hb : rbehind (l.drop k) = (l.drop (z + 1)).take (e - (z + 1)) := by unfold rbehind; rw [hl, hc2]
  have hel := (List.getElem?_eq_some_iff.1 h10).1
  have hbl : ((l.drop (z + 1)).take (e - (z + 1))).length = e - (z + 1) := by rw [List.length_take, List.length_drop]; omega
  refine ⟨?_, fun h40 => ?_, by unfold rrest; rw [hc]⟩
  · unfold refOk
    rw [hb, hl, hc, hc2, hbl, List.take_take, List.take_take, Nat.min_comm]
    rfl
  · unfold refIs
    rw [hp, hb, List.take_take, Nat.min_eq_left h40, List.drop_take, List.drop_drop, show z + 1 + 40 = z + 41 by omega, show e - (z + 1) - 40 = e - (z + 41) by omega]
theorem take_more {l : List UInt8} {m : Nat} (h : 40 ≤ m) : (l.take 40).take m = l.take 40 := List.take_of_length_le (Nat.le_trans (List.length_take_le _ _) h)
end Go.Proofs.YtcbjadecocggjaaDoor
