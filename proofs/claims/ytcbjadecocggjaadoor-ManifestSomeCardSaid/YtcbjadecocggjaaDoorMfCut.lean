/- manifest.Parse's closure: what stands ahead of a byte, and the rest kept: the walk. -/
import Derived.Test.YtcbjadecocggjaaDoorMfRead
namespace Go.Proofs.YtcbjadecocggjaaDoor
open Go.RowKit Plain
set_option linter.unusedVariables false
set_option linter.unusedSimpArgs false
theorem cut_any (l : List UInt8) (c : UInt8) (w : World) (hE : Env w) (hs : l.length ≤ 1000000000) :
    Calls Tryd.prog 27 #[.string (txt l), .string ⟨#[c]⟩] w fun e w' => e = .returned (.tuple #[.string (txt (Lib.cut l [c]).1), .string (txt (Lib.cut l [c]).2.1), .bool (Lib.cut l [c]).2.2]) ∧ Below w.heap.size w w' := by
  obtain ⟨m, hm⟩ := hE.most
  refine (Tryd.strings_Cut (txt l) ⟨#[c]⟩ m w (by rw [txt_size]; omega) hm).mono ?_
  rintro e w' ⟨rfl, q, rfl⟩
  refine ⟨?_, drewN_below w q⟩
  rw [txt_list]
  rfl
/-- A text in a cell of its own. -/
def Cell (w : World) (rb : Nat) (s : ByteArray) : Prop := w.heap[rb]? = some (.cells #[.string s] 9 (0, 0))
theorem Cell.lt {w : World} {rb : Nat} {s : ByteArray} (h : Cell w rb s) : rb < w.heap.size := (Array.getElem?_eq_some_iff.1 h).1
theorem Cell.below {w w' : World} {rb : Nat} {s : ByteArray} (h : Cell w rb s) (hb : Below w.heap.size w w') : Cell w' rb s := (hb.block rb h.lt).trans h
theorem Cell.cell {w : World} {rb : Nat} {s : ByteArray} (h : Cell w rb s) : w.cell? ⟨rb, 0, none⟩ = some (.string s) := by
  rw [cell_of_row _ _ _ _ _ _ h]; rfl
theorem grown_cell {w w1 : World} {rb : Nat} (hb : Below w.heap.size w w1) (v : Value) : w.grownBy (w1.setCell ⟨rb, 0, none⟩ v) (some rb) := by
  refine ⟨hb.os, hb.tape, hb.output, ?_, fun k hk hne => ?_⟩
  · have := hb.size
    simpa [World.setCell] using this
  · rw [heap_setCell_other _ _ _ _ (fun e => hne (by rw [e])), hb.block k hk]
theorem OwnF.other {e : TypeId} {w w' : World} {base rb : Nat} {v : Value} {xs : List MF} {s : ByteArray} (h : OwnF e w base v xs) (hr : Cell w rb s) (hne : e ≠ 9) (hg : w.grownBy w' (some rb)) : OwnF e w' base v xs := by
  obtain ⟨⟨h1, h2 | ⟨g, cap, cur, h3, h4, h5, h6⟩⟩, h20⟩ := h
  · exact ⟨⟨h1, .inl h2⟩, h20⟩
  · refine ⟨⟨h1, .inr ⟨g, cap, cur, h3, h4, (hg.block g (Array.getElem?_eq_some_iff.1 h5).1 (fun e1 => ?_)).trans h5, h6⟩⟩, h20⟩
    injection e1 with e1
    subst e1
    have hr2 : w.heap[g]? = some (.cells #[.string s] 9 (0, 0)) := hr
    rw [hr2] at h5
    injection h5 with h5
    injection h5 with _ h5 _
    exact hne h5.symm
theorem Cell.grown {e : TypeId} {w w' : World} {base rb : Nat} {v : Value} {xs : List MF} {s : ByteArray} (hr : Cell w rb s) (h : OwnF e w base v xs) (hne : e ≠ 9) (hg : w.grownBy w' v.ownBlock) : Cell w' rb s := by
  refine (hg.block rb hr.lt (fun e1 => ?_)).trans hr
  obtain ⟨⟨h1, ⟨h2, -⟩ | ⟨g, cap, cur, h3, h4, h5, h6⟩⟩, h20⟩ := h
  · rw [h2] at e1; cases e1
  · rw [h3] at e1
    injection e1 with e1
    subst e1
    have hr2 : w.heap[rb]? = some (.cells #[.string s] 9 (0, 0)) := hr
    rw [hr2] at h5
    injection h5 with h5
    injection h5 with _ h5 _
    exact hne h5.symm
set_option maxRecDepth 100000 in
set_option maxHeartbeats 8000000 in
theorem cutc_any (l : List UInt8) (c : UInt8) (rb : Nat) (w : World) (hr : Cell w rb (txt l)) (hE : Env w) (hs : l.length ≤ 1000000000) :
    Calls Tryd.prog 26 #[.string ⟨#[c]⟩, .pointer (some ⟨rb, 0, none⟩)] w fun e w' => e = .returned (.tuple #[.string (txt (Lib.cut l [c]).1), .bool (Lib.cut l [c]).2.2]) ∧ Cell w' rb (txt (Lib.cut l [c]).2.1) ∧ w.grownBy w' (some rb) := by
  have hcr := hr.cell
  have HR := Lib.hid hr
  have HC := Lib.hid (cut_any l c w hE hs)
  clear hr hE hs
  go_enter Tryd.func26, Tryd.ntmps26
  go_wp2_with fail
  refine HC.out.mono ?_
  rintro e w1 ⟨rfl, hb⟩
  have HR1 := Lib.hid (HR.out.below hb)
  have HB := Lib.hid hb
  have hc1 := HR1.out.cell
  have hf1 : w1.frozen? ⟨rb, 0, none⟩ = false := Lib.frozen_of_heap HR1.out 0
  clear hb hcr HC
  obtain ⟨A, hA⟩ : ∃ x, (Lib.cut l [c]).1 = x := ⟨_, rfl⟩
  obtain ⟨B, hB⟩ : ∃ x, (Lib.cut l [c]).2.1 = x := ⟨_, rfl⟩
  obtain ⟨k, hk⟩ : ∃ x, (Lib.cut l [c]).2.2 = x := ⟨_, rfl⟩
  rw [hA, hB, hk]
  have HA := Lib.hid hA
  have HBB := Lib.hid hB
  have HK := Lib.hid hk
  clear hA hB hk
  go_wp2_with fail
  go_ret2
  rw [HA.out, HBB.out, HK.out]
  exact ⟨rfl, heap_setCell_same w1 rb 0 #[.string (txt l)] 9 (.string (txt B)) HR1.out, grown_cell HB.out _⟩
end Go.Proofs.YtcbjadecocggjaaDoor
