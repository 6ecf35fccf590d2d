/- What stands behind so many bytes: the walk. -/
import Derived.Test.YtlnfgebonmfokaaDoorWords
namespace Go.Proofs.YtlnfgebonmfokaaDoor
open Go.RowKit Plain
set_option linter.unusedVariables false
def eb (n i : Nat) : Int := ((n * 8 % 18446744073709551616 / 2 ^ (56 - 8 * i) % 256 : Nat) : Int)
def endTo (n m k : Nat) : List Int := 128 :: (List.replicate m 0 ++ (List.range 8).map fun i => if i < k then eb n i else 0)
/-- What stands behind n bytes. -/
def endOf (n : Nat) : List Int := endTo n ((119 - n % 64) % 64) 8
theorem endTo_length (n m k : Nat) : (endTo n m k).length = m + 9 := by simp [endTo]
theorem endTo_set (n m k : Nat) (hk : k < 8) (x : Int) (hx : x = eb n k) : (V8 (endTo n m k)).setIfInBounds (1 + m + k) (.int .u8 x) = V8 (endTo n m (k + 1)) := by
  subst hx
  apply Array.toList_inj.1
  unfold V8 endTo
  rw [Array.toList_setIfInBounds]
  simp only [List.map_cons, List.map_append]
  rw [show 1 + m + k = (m + k) + 1 by omega, List.set_cons_succ, List.set_append_right _ _ (by simp)]
  simp only [List.length_map, List.length_replicate, Nat.add_sub_cancel_left]
  congr 2
  apply List.ext_getElem
  · simp
  · intro j h1 h2
    have hj : j < 8 := by simpa using h2
    rw [List.getElem_set]
    simp only [List.getElem_map, List.getElem_range]
    by_cases hjk : k = j
    · subst hjk; simp
    · rw [if_neg hjk]
      by_cases hlt : j < k
      · rw [if_pos hlt, if_pos (by omega)]
      · rw [if_neg hlt, if_neg (by omega)]
theorem endTo_zero (n m : Nat) : (Zs (m + 9)).setIfInBounds 0 (.int .u8 128) = V8 (endTo n m 0) := by
  apply Array.toList_inj.1
  have h8 : ((List.range 8).map fun i => if i < 0 then eb n i else 0) = List.replicate 8 (0 : Int) := by simp; rfl
  unfold V8 endTo Zs
  rw [h8, List.replicate_append_replicate, Array.toList_setIfInBounds, show m + 9 = (m + 8) + 1 from rfl, List.replicate_succ, List.map_cons, List.map_cons]
  simp only [List.set_cons_zero]
theorem cases8 (k : Nat) (h : k < 8) : k = 0 ∨ k = 1 ∨ k = 2 ∨ k = 3 ∨ k = 4 ∨ k = 5 ∨ k = 6 ∨ k = 7 := by omega
set_option maxRecDepth 100000 in
set_option maxHeartbeats 8000000 in
theorem ending_any (n : Nat) (w : World) (hn : n < 18446744073709551616) :
    Calls Tryd.prog 29 #[.int .u64 (n : Int)] w fun r w' =>
      ∃ B, r = .returned (.slice (some ⟨B, 0, none⟩) (endOf n).length (endOf n).length) ∧ w.heap.size ≤ B ∧ w'.heap[B]? = some (.cells (V8 (endOf n)) 5 (0, 0)) ∧ Below w.heap.size w w' := by
  obtain ⟨m, hm⟩ : ∃ m, (119 - n % 64) % 64 = m := ⟨_, rfl⟩
  have hN : Hid (endOf n = endTo n m 8 ∧ n < 18446744073709551616) := ⟨by unfold endOf; rw [hm], hn⟩
  have n0 : (0 : Int) ≤ n := by omega
  have n1 : (n : Int) < 18446744073709551616 := by omega
  have hm64 : m < 64 := by omega
  have hq : (119 - (n : Int)) % 64 = m := by omega
  have hq' : (119 - (n : Int) % 64) % 64 = m := by omega
  obtain ⟨x, hx⟩ : ∃ x, n * 8 % 18446744073709551616 = x := ⟨_, rfl⟩
  have hx0 : (x : Int) < 18446744073709551616 := by omega
  have hw' : (n : Int) * 8 % 18446744073709551616 = x := by omega
  have hw : IntKind.u64.wrap ((n : Int) * 8) = x := by rw [IntKind.wrap_u64]; exact hw'
  have HX : Hid (n * 8 % 18446744073709551616 = x) := hx
  clear hx
  have hmk := make_zs (m + 9) (by omega)
  rw [show ((m + 9 : Nat) : Int) = 1 + (m : Int) + 8 by omega] at hmk
  have z0 : (w.alloc (.cells (Zs (m + 9)) 5)).cell? ⟨w.heap.size, 0, none⟩ = some (.int .u8 0) := by
    rw [cell_of_row _ _ _ _ _ (0, 0) (heap_alloc_new _ _)]; simp [Zs]
  have zf : (w.alloc (.cells (Zs (m + 9)) 5)).frozen? ⟨w.heap.size, 0, none⟩ = false := frozen_of_row _ _ _ _ _ (heap_alloc_new _ _)
  have hm0 : (m : Int) < 64 := by omega
  have hm1 : (0 : Int) < 1 + (m : Int) + 8 := by omega
  clear hn hm
  go_enter Tryd.func29, Tryd.ntmps29
  go_wp2_with fail
  have hz := endTo_zero n m
  have hh : (w.alloc (.cells ((Zs (m + 9)).setIfInBounds 0 (.int .u8 128)) 5)).heap[w.heap.size]? = some (.cells (V8 (endTo n m 0)) 5 (0, 0)) := by
    rw [heap_alloc_new, hz]
  have hbel : Below w.heap.size w (w.alloc (.cells ((Zs (m + 9)).setIfInBounds 0 (.int .u8 128)) 5)) := (Below.refl _ _).alloc (Nat.le_refl _) _
  clear hz z0 zf hmk
  generalize (w.alloc (.cells ((Zs (m + 9)).setIfInBounds 0 (.int .u8 128)) 5)) = w0 at *
  have H0 : Hid (w0.heap[w.heap.size]? = some (.cells (V8 (endTo n m 0)) 5 (0, 0))) := hh
  clear hh
  go_loopw [17] (fun i wr => ∃ k : Nat, k ≤ 8 ∧ i = .int .i64 k ∧ wr.heap[w.heap.size]? = some (.cells (V8 (endTo n m k)) 5 (0, 0)) ∧ Below w.heap.size w wr) (fun i _ => 8 - (intOf i).toNat)
  case atStart => exact ⟨0, by omega, rfl, H0.out, hbel⟩
  case round =>
    clear hbel H0
    obtain ⟨k, hk, rfl, h0, hbel⟩ := hrel
    have G0 : Hid (wr.heap[w.heap.size]? = some (.cells (V8 (endTo n m k)) 5 (0, 0))) := h0
    clear h0
    by_cases h8 : k < 8
    · obtain ⟨ov, ho⟩ : ∃ ov, wr.cell? ⟨w.heap.size, 1 + m + k, none⟩ = some ov := ⟨_, by rw [cell_of_row wr _ _ _ _ _ G0.out, Array.getElem?_eq_getElem (by rw [V8_size, endTo_length]; omega)]⟩
      have fo := frozen_of_row wr (w.heap.size) (1 + m + k) (V8 (endTo n m k)) 5 G0.out
      have HS : Hid (∀ x, x = eb n k → (V8 (endTo n m k)).setIfInBounds (1 + m + k) (.int .u8 x) = V8 (endTo n m (k + 1))) := fun x hx => endTo_set n m k h8 x hx
      have HK : Hid (k < 8) := h8
      clear hk
      have hix : (Instr.indexAt 22 (.slice (some ⟨w.heap.size, 0, none⟩) (m + 9) (m + 9)) (.int .i64 (1 + (m : Int) + (k : Int)))).run Tryd.prog wr = .ok (.pointer (some ⟨w.heap.size, 1 + m + k, none⟩)) wr := by
        have hsz : ∀ W : World, (sizeOf (Tryd.prog.elem 22)).run Tryd.prog W = .ok 1 W := fun W => by kernel_rfl
        rw [run_indexAt_slice wr 22 _ _ _ _ _ (by kernel_rfl), if_pos (by omega), hsz]
        simp only [Result.andThen_ok, Nat.mul_one]
        rw [show (1 + (m : Int) + (k : Int)).toNat = 1 + m + k by omega]
        unfold Addr.add
        simp
      have f56 : 0 ≤ 56 - 8 * (k : Int) := by omega
      have f8 : (k : Int) < 8 := by omega
      clear h8
      go_wp2_with fail
      refine ⟨⟨k + 1, HK.out, by go_num, ?_, hbel.setCell (Nat.le_refl _) _⟩, ?_⟩
      · rw [heap_setCell_same _ _ _ _ _ _ G0.out, HS.out _ (by unfold eb; rw [HX.out]; push_cast; rfl)]
      · have := HK.out; simp [intOf]; omega
    · obtain rfl : k = 8 := by omega
      go_wp2_with fail
      have hL : (endOf n).length = m + 9 := by rw [hN.out.1, endTo_length]
      go_ret
      refine ⟨w.heap.size, by rw [hL]; rfl, Nat.le_refl _, by rw [hN.out.1]; exact G0.out, hbel⟩
end Go.Proofs.YtlnfgebonmfokaaDoor
