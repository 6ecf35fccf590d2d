/- SHA-1's sum as 20 bytes: the walk. -/
import Derived.Test.YtlnfgebonmfokaaDoorMix1
import Derived.BigQuiet
import Derived.WalkSmall
import Derived.Laws.Tables
import Derived.Laws.CopyOwn
namespace Go.Proofs.YtlnfgebonmfokaaDoor
open Go.RowKit Plain
set_option linter.unusedVariables false

def fiveAt (h : Five) (i : Nat) : BitVec 32 := match i with | 0 => h.a | 1 => h.b | 2 => h.c | 3 => h.d | _ => h.e
/-- The sum's byte number i. -/
def tb (h : Five) (i : Nat) : Int := (((fiveAt h (i / 4)).toNat / 2 ^ (24 - 8 * (i % 4)) % 256 : Nat) : Int)
def idTo (h : Five) (k : Nat) : Array Value := ((List.range 20).map fun i => Value.int .u8 (if i < k then tb h i else 0)).toArray
theorem idTo_size (h : Five) (k : Nat) : (idTo h k).size = 20 := by simp [idTo]
theorem idTo_set (h : Five) (k : Nat) (hk : k < 20) (x : Int) (hx : x = tb h k) : (idTo h k).setIfInBounds k (.int .u8 x) = idTo h (k + 1) := by
  subst hx
  apply Array.ext
  · simp [idTo_size]
  · intro j h1 h2
    have hj : j < 20 := by simpa [idTo_size] using h2
    rw [Array.getElem_setIfInBounds (by simpa using h1)]
    by_cases hjk : k = j
    · subst hjk; simp [idTo]
    · rw [if_neg hjk]
      simp only [idTo, List.getElem_toArray, List.getElem_map, List.getElem_range]
      by_cases hlt : j < k
      · rw [if_pos hlt, if_pos (by omega)]
      · rw [if_neg hlt, if_neg (by omega)]
theorem cases20 (k : Nat) (h : k < 20) : k = 0 ∨ k = 1 ∨ k = 2 ∨ k = 3 ∨ k = 4 ∨ k = 5 ∨ k = 6 ∨ k = 7 ∨ k = 8 ∨ k = 9 ∨ k = 10 ∨ k = 11 ∨ k = 12 ∨ k = 13 ∨ k = 14 ∨ k = 15 ∨ k = 16 ∨ k = 17 ∨ k = 18 ∨ k = 19 := by omega
theorem zero_20 (h : Five) (w : World) : (zeroValue 25).run Tryd.prog w = .ok (.agg (idTo h 0)) w := by
  show _ = Result.ok (Value.agg (List.replicate 20 (Value.int .u8 0)).toArray) w
  kernel_rfl
set_option maxRecDepth 100000 in
set_option maxHeartbeats 8000000 in
theorem told_any (s : Five) (w : World) :
    Calls Tryd.prog 30 #[.agg #[.int .u32 s.a.toNat, .int .u32 s.b.toNat, .int .u32 s.c.toNat, .int .u32 s.d.toNat, .int .u32 s.e.toNat]] w fun r w' =>
      r = .returned (.agg (idTo s 20)) ∧ Below w.heap.size w w' := by
  have hz := zero_20 s
  go_enter Tryd.func30, Tryd.ntmps30
  go_wp2_with fail
  clear hz
  obtain ⟨h0, h1, h2, hb, hs⟩ := three_blocks w (.cells #[.int .u32 s.a.toNat, .int .u32 s.b.toNat, .int .u32 s.c.toNat, .int .u32 s.d.toNat, .int .u32 s.e.toNat] 49) (.cells (idTo s 0) 25) (.cells (idTo s 0) 25)
  generalize ((w.alloc (.cells #[.int .u32 s.a.toNat, .int .u32 s.b.toNat, .int .u32 s.c.toNat, .int .u32 s.d.toNat, .int .u32 s.e.toNat] 49)).alloc (.cells (idTo s 0) 25)).alloc (.cells (idTo s 0) 25) = w0 at *
  have H0 : Hid (w0.heap[w.heap.size]? = some (.cells #[.int .u32 s.a.toNat, .int .u32 s.b.toNat, .int .u32 s.c.toNat, .int .u32 s.d.toNat, .int .u32 s.e.toNat] 49 (0, 0))) := h0
  have H1 : Hid (w0.heap[w.heap.size + 1]? = some (.cells (idTo s 0) 25 (0, 0))) := h1
  have H2 : Hid (w0.heap[w.heap.size + 1 + 1]? = some (.cells (idTo s 0) 25 (0, 0))) := h2
  clear h0 h1 h2 hs
  go_loopw [5] (fun i wr => ∃ k : Nat, k ≤ 20 ∧ i = .int .i64 k ∧ wr.heap[w.heap.size]? = some (.cells #[.int .u32 s.a.toNat, .int .u32 s.b.toNat, .int .u32 s.c.toNat, .int .u32 s.d.toNat, .int .u32 s.e.toNat] 49 (0, 0)) ∧ wr.heap[w.heap.size + 1]? = some (.cells (idTo s 0) 25 (0, 0)) ∧ wr.heap[w.heap.size + 1 + 1]? = some (.cells (idTo s k) 25 (0, 0)) ∧ Below w.heap.size w wr) (fun i _ => 20 - (intOf i).toNat)
  case atStart => exact ⟨0, by omega, rfl, H0.out, H1.out, H2.out, hb⟩
  case round =>
    obtain ⟨k, hk, rfl, h0, h1, h2, hbel⟩ := hrel
    have G0 : Hid (wr.heap[w.heap.size]? = some (.cells #[.int .u32 s.a.toNat, .int .u32 s.b.toNat, .int .u32 s.c.toNat, .int .u32 s.d.toNat, .int .u32 s.e.toNat] 49 (0, 0))) := h0
    have G1 : Hid (wr.heap[w.heap.size + 1]? = some (.cells (idTo s 0) 25 (0, 0))) := h1
    have G2 : Hid (wr.heap[w.heap.size + 1 + 1]? = some (.cells (idTo s k) 25 (0, 0))) := h2
    clear h0 h1 h2 hb H0 H1 H2
    by_cases h20 : k < 20
    · obtain ⟨ov, ho⟩ : ∃ ov, wr.cell? ⟨w.heap.size + 1 + 1, k, none⟩ = some ov := ⟨_, by rw [cell_of_row wr _ _ _ _ _ G2.out, Array.getElem?_eq_getElem (by rw [idTo_size]; omega)]⟩
      have fo := frozen_of_row wr (w.heap.size + 1 + 1) k (idTo s k) 25 G2.out
      obtain ⟨c0, c1, c2, c3, c4⟩ := cells5 G0.out
      have HS : Hid (∀ x, x = tb s k → (idTo s k).setIfInBounds k (.int .u8 x) = idTo s (k + 1)) := fun x hx => idTo_set s k h20 x hx
      have HK : Hid (k < 20) := h20
      clear hk
      rcases cases20 k h20 with rfl | rfl | rfl | rfl | rfl | rfl | rfl | rfl | rfl | rfl | rfl | rfl | rfl | rfl | rfl | rfl | rfl | rfl | rfl | rfl <;> clear h20
      all_goals
        go_wp2_with fail
        go_roundw
        case rel =>
          refine ⟨_, ?_, rfl, ?_, ?_, (heap_setCell_same wr (w.heap.size + 1 + 1) _ _ _ _ G2.out).trans ?_, (hbel.setCell (by show w.heap.size ≤ w.heap.size + 1 + 1; omega) _)⟩
          · exact HK.out
          · exact (Below.heap_setCell wr _ _ _ (by show w.heap.size ≠ w.heap.size + 1 + 1; omega)).trans G0.out
          · exact (Below.heap_setCell wr _ _ _ (by show w.heap.size + 1 ≠ w.heap.size + 1 + 1; omega)).trans G1.out
          · rw [HS.out _ (by simp [tb, fiveAt] <;> (have q0 := s.a.isLt; have q1 := s.b.isLt; have q2 := s.c.isLt; have q3 := s.d.isLt; have q4 := s.e.isLt; omega))]
        case measure => simp [intOf]
    · obtain rfl : k = 20 := by omega
      have HI : Hid ((Tryd.prog.info? 25).map (·.size) = some (idTo s 20).size) := by
        show (Tryd.prog.info? 25).map (·.size) = some (idTo s 20).size
        rw [idTo_size]; kernel_rfl
      have HL : Hid ((idTo s 0).size = (idTo s 20).size) := by show (idTo s 0).size = (idTo s 20).size; rw [idTo_size, idTo_size]
      have HO : Hid ((idTo s 20).all (·.oneCell') = true) := by
        show (idTo s 20).all (·.oneCell') = true
        rw [Array.all_eq_true_iff_forall_mem]; intro v hv; unfold idTo at hv; simp at hv; obtain ⟨x, _, rfl⟩ := hv; rfl
      have tok1 : True := trivial
      have tok2 : True := trivial
      go_wp2_with (first
        | (have _t := tok1; refine wpList_load_row rfl 25 _ rfl (w.heap.size + 1 + 1) rfl 25 (idTo s 20) (0, 0) (.array 20 5) G2.out Tryd.underlying25 rfl HI.out ?_; clear tok1)
        | (have _t := tok2; refine wpList_store_row rfl 25 _ _ rfl (w.heap.size + 1) (idTo s 20) rfl rfl 25 (idTo s 0) G1.out HI.out HL.out HO.out ?_; clear tok2))
      refine bodyPost_ret (results_cell_row Tryd.results30 _ _ (w.heap.size + 1) 25 _ (0, 0) (.array 20 5) rfl (setRow_heap wr _ _ _ _ _ G1.out) Tryd.underlying25 rfl HI.out) rfl ⟨rfl, ?_⟩
      exact below_setRow hbel (by omega) _
end Go.Proofs.YtlnfgebonmfokaaDoor
