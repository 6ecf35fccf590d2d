/- Fronts of bytes, cut off; bytes cut at a byte: the walks. -/
import Derived.Test.YtmkhnlfhbiabcaaDoorCat
import Derived.Test.YtmkhnlfhbiabcaaDoorRight
import Derived.Test.YtmkhnlfhbiabcaaDoorCases
namespace Go.Proofs.YtmkhnlfhbiabcaaDoor
open Go.RowKit Plain
set_option linter.unusedVariables false
/-- A text's bytes in a new row. -/
def numsOf (s : ByteArray) : List Int := s.data.toList.map fun c => (c.toNat : Int)
theorem numsOf_bytes (s : ByteArray) : ∀ x ∈ numsOf s, 0 ≤ x ∧ x ≤ 255 := by
  intro x hx
  obtain ⟨c, -, rfl⟩ := List.mem_map.1 hx
  have := c.toNat_lt
  omega
theorem range_of_mem {xs : List Int} (h : ∀ x ∈ xs, 0 ≤ x ∧ x ≤ 255) (j : Nat) : 0 ≤ xs[j]?.getD 0 ∧ xs[j]?.getD 0 ≤ 255 := by
  by_cases hj : j < xs.length
  · rw [List.getElem?_eq_getElem hj]; exact h _ (List.getElem_mem hj)
  · rw [List.getElem?_eq_none (by omega)]; simp
theorem numsOf_length (s : ByteArray) : (numsOf s).length = s.size := by unfold numsOf; rw [List.length_map]; rfl
theorem bytes_new (w : World) (s : ByteArray) (hs : s.size ≤ 9223372036854775807) : Bytes (Lib.bytesWorld w 5 s) (some ⟨w.heap.size, 0, none⟩) s.size (numsOf s) := by
  refine ⟨numsOf_length s, hs, range_of_mem (numsOf_bytes s), .inr ⟨_, _, rfl, fun j hj => ?_⟩⟩
  rw [Nat.zero_add, Lib.bytesWorld_cell w 5 s j hj]
  unfold numsOf
  have hj' : j < s.data.toList.length := by simpa using hj
  rw [List.getElem?_map, List.getElem?_eq_getElem hj', List.getD_eq_getElem?_getD, List.getElem?_eq_getElem hj']
  rfl
theorem conv_bytes (w : World) (s : ByteArray) : ∃ c, s.size ≤ c ∧ (convert 9 22 (.string s)).run Tryd.prog w = .ok (.slice (some ⟨w.heap.size, 0, none⟩) s.size c) (Lib.bytesWorld w 5 s) := by
  have hge := grownCap_ge w s.size 0 5
  exact ⟨_, hge, Lib.run_convert_string_bytes w 9 22 5 s Tryd.underlying9 Tryd.underlying22 Tryd.underlying5⟩
/-- A text's bytes in a new row: a slice of the call's own. -/
theorem mid_text (w : World) (s : ByteArray) (hs : s.size ≤ 1000000) : ∃ c, (convert 9 22 (.string s)).run Tryd.prog w = .ok (.slice (some ⟨w.heap.size, 0, none⟩) s.size c) (Lib.bytesWorld w 5 s) ∧
    Mid (Lib.bytesWorld w 5 s) w.heap.size (.slice (some ⟨w.heap.size, 0, none⟩) s.size c) s.size (numsOf s) := by
  have hge := grownCap_ge w s.size 0 5
  have hcm : grownCap w s.size 0 5 ≤ maxLen := grownCap_le_maxLen w s.size 0 5 (by unfold maxLen; omega)
  refine ⟨_, Lib.run_convert_string_bytes w 9 22 5 s Tryd.underlying9 Tryd.underlying22 Tryd.underlying5, numsOf_length s, .inr ⟨w.heap.size, 0, _, rfl, Nat.le_refl _, ?_, hge, by unfold maxLen at hcm; omega, ?_, ?_⟩⟩
  · rw [Lib.bytesWorld_size]; omega
  · intro j v hv
    have hj : j < s.size := by
      rcases Nat.lt_or_ge j s.size with h | h
      · exact h
      · rw [List.getElem?_eq_none (by rw [U8_length, numsOf_length]; exact h)] at hv; cases hv
    rw [Nat.zero_add, Lib.bytesWorld_cell w 5 s j hj, ← hv]
    have hj' : j < s.data.toList.length := by simpa using hj
    unfold U8 numsOf
    rw [List.getElem?_map, List.getElem?_map, List.getElem?_eq_getElem hj', List.getD_eq_getElem?_getD, List.getElem?_eq_getElem hj']
    rfl
  · intro j hj
    have hn := Lib.bytesWorld_at_new w 5 s
    have hsz : (Lib.bytesCells w 5 s).size = grownCap w s.size 0 5 := by
      unfold Lib.bytesCells
      rw [Array.size_append, Array.size_map, Array.size_replicate]
      have : s.data.size = s.size := rfl
      omega
    rw [Nat.zero_add]
    constructor
    · simp only [World.cell?, hn]
      rw [Array.getElem?_eq_getElem (by rw [hsz]; exact hj)]
      rfl
    · simp only [World.frozen?, hn, hsz]
      simp
      omega
theorem RowB.part {w : World} {a : Option Addr} {n c : Nat} {xs : List Int} (h : RowB w a n c xs) (lo : Nat) (hlo : lo ≤ n) : RowB w (subA a c lo) (n - lo) (c - lo) (xs.drop lo) := by
  have hp := h.bytes.part c lo n hlo (Nat.le_refl _) h.le
  rw [List.take_of_length_le (by rw [List.length_drop, h.len]; omega)] at hp
  exact ⟨by have := h.le; omega, by have := h.cap; omega, subA_nil h.nil, hp⟩
theorem in_of {w : World} {a : Option Addr} {n : Nat} {xs : List Int} (h : Bytes w a n xs) : Lib.BytesIn w a n xs := fun hn => by
  rcases h.2.2.2 with h0 | ⟨b, o, rfl, hc⟩
  · omega
  · exact ⟨b, o, rfl, fun i hi => by rw [List.getD_eq_getElem?_getD]; exact hc i hi⟩
theorem bytesOf_nums (s : ByteArray) : Lib.bytesOf (numsOf s) = s.data.toList := by
  unfold Lib.bytesOf numsOf
  rw [List.map_map]
  conv => rhs; rw [← List.map_id s.data.toList]
  apply List.map_congr_left
  intro b _
  simp
theorem bytesOf_len (xs : List Int) : (Lib.bytesOf xs).length = xs.length := by unfold Lib.bytesOf; rw [List.length_map]
/-- Do bytes begin so? -/
def pre (xs : List Int) (p : ByteArray) : Bool := Lib.hasPrefix (Lib.bytesOf xs) p.data.toList
theorem pre_le {xs : List Int} {p : ByteArray} (h : pre xs p = true) : p.size ≤ xs.length := by
  unfold pre Lib.hasPrefix at h
  have := List.IsPrefix.length_le (List.isPrefixOf_iff_prefix.1 h)
  rw [bytesOf_len] at this
  rw [Lib.size_eq]; exact this
set_option maxRecDepth 100000 in
set_option maxHeartbeats 4000000 in
theorem cutp_any (a : Option Addr) (n c : Nat) (xs : List Int) (g : Nat) (p : ByteArray) (w : World) (R : RowB w a n c xs) (hp : w.cell? ⟨g, 0, none⟩ = some (.string p)) (hn : n ≤ 20000000) (hps : p.size ≤ 1000) :
    Calls Tryd.prog 15 #[.slice a n c, .slice (some ⟨g, 0, none⟩) 1 1] w fun e w' => ((pre xs p = true ∧ e = .returned (.tuple #[.slice (subA a c p.size) (n - p.size) (c - p.size), .bool true])) ∨ (pre xs p = false ∧ e = .returned (.tuple #[.slice a n c, .bool false]))) ∧ Below w.heap.size w w' := by
  have HR := Lib.hid R
  have HP := Lib.hid hp
  have hnc := R.le
  obtain ⟨cc, hcc, hconv⟩ := conv_bytes w p
  have hb := bytes_new w p (by omega)
  have HBN := Lib.hid hb
  have HBW : Hid (Below w.heap.size w (Lib.bytesWorld w 5 p)) := Joins.below_bytesWorld _ w 5 p (Nat.le_refl _)
  have HC := Lib.hid (Tryd.bytes_HasPrefix_all a (some ⟨w.heap.size, 0, none⟩) n c p.size cc xs (numsOf p) (Lib.bytesWorld w 5 p) R.len (numsOf_length p) hnc (in_of (R.below HBW.out).bytes) (in_of hb))
  rw [bytesOf_nums] at HC
  have HPL := Lib.hid (fun h : pre xs p = true => pre_le h)
  have hpr : Lib.hasPrefix (Lib.bytesOf xs) p.data.toList = pre xs p := rfl
  rw [hpr] at HC
  have hsub := fun h : p.size ≤ n => fun W => (slice_from a n c p.size h hnc W)
  generalize Lib.bytesWorld w 5 p = w1 at *
  have HXL := Lib.hid R.len
  clear R hb hpr
  go_enter Tryd.func15, Tryd.ntmps15
  go_wp2_with fail
  go_loopw [6, 12] (fun r i wr => (i = .int .i64 0 ∧ r = .slice a n c ∧ wr = w) ∨ (i = .int .i64 1 ∧ r = .slice (subA a c p.size) (n - p.size) (c - p.size) ∧ pre xs p = true ∧ Below w.heap.size w wr)) (fun _ i _ => 1 - (intOf i).toNat)
  case atStart => exact .inl ⟨rfl, rfl, rfl⟩
  case round =>
    rcases hrel with ⟨rfl, rfl, rfl⟩ | ⟨rfl, rfl, hpt, hb⟩
    · cases hpt : pre xs p
      · rw [hpt] at HC
        have HF := Lib.hid hpt
        clear hpt hsub
        go_wp2_with fail
        refine HC.out.mono ?_
        rintro e w2 ⟨rfl, rfl⟩
        go_wp2_with fail
        go_ret2
        exact ⟨.inr ⟨HF.out, rfl⟩, HBW.out⟩
      · rw [hpt] at HC
        have HF := Lib.hid hpt
        have hle : p.size ≤ n := by rw [← HXL.out]; exact pre_le hpt
        have hs := hsub hle
        clear hpt hsub
        go_wp2_with fail
        refine HC.out.mono ?_
        rintro e w2 ⟨rfl, rfl⟩
        go_wp2_with fail
        exact ⟨.inr ⟨rfl, rfl, by first | exact HF.out | trivial, HBW.out⟩, by simp [intOf]⟩
    · have HB := Lib.hid hb
      have HF := Lib.hid hpt
      clear hb hpt hsub
      go_wp2_with fail
      go_ret2
      exact ⟨.inl ⟨HF.out, rfl⟩, HB.out⟩
end Go.Proofs.YtmkhnlfhbiabcaaDoor
