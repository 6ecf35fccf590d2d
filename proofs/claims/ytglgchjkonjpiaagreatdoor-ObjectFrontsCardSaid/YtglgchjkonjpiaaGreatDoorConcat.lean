/- Two slices of bytes, one behind the other, in a new row: the walks. -/
import Derived.Test.YtglgchjkonjpiaaGreatDoorSplit
import Derived.Lib.AppendZeros
namespace Go.Proofs.YtglgchjkonjpiaaGreatDoor
open Go.RowKit Plain
set_option linter.unusedVariables false
theorem mid_zeros (w : World) (n : Nat) (hn : n ≤ 1000000000) : ∃ c, grownCap w n 0 5 = c ∧ n ≤ c ∧ c ≤ 9223372036854775807 ∧
    Mid (w.drew.alloc (.cells (Builtin.zeroCells (Value.int .u8 0).cells n ++ Builtin.zeroCells (Value.int .u8 0).cells (c - n)) 5)) w.heap.size (.slice (some ⟨w.heap.size, 0, none⟩) 0 c) 0 [] := by
  have hge := grownCap_ge w n 0 5
  have hcm : grownCap w n 0 5 ≤ maxLen := grownCap_le_maxLen w n 0 5 (by unfold maxLen; omega)
  unfold maxLen at hcm
  refine ⟨_, rfl, hge, by omega, rfl, ?_⟩
  generalize grownCap w n 0 5 = gc at *
  have hz1' : (Value.int IntKind.u8 0).cells.size = 1 := rfl
  have hsz : (Builtin.zeroCells (Value.int .u8 0).cells n ++ Builtin.zeroCells (Value.int .u8 0).cells (gc - n)).size = gc := by
    simp only [Array.size_append, size_zeroCells, hz1']
    omega
  have hnew := heap_alloc_new w.drew (.cells (Builtin.zeroCells (Value.int .u8 0).cells n ++ Builtin.zeroCells (Value.int .u8 0).cells (gc - n)) 5)
  have hnew2 : (w.drew.alloc (.cells (Builtin.zeroCells (Value.int .u8 0).cells n ++ Builtin.zeroCells (Value.int .u8 0).cells (gc - n)) 5)).heap[w.heap.size]? = some (.cells (Builtin.zeroCells (Value.int .u8 0).cells n ++ Builtin.zeroCells (Value.int .u8 0).cells (gc - n)) 5 (0, 0)) := hnew
  have hsize : w.heap.size < (w.drew.alloc (.cells (Builtin.zeroCells (Value.int .u8 0).cells n ++ Builtin.zeroCells (Value.int .u8 0).cells (gc - n)) 5)).heap.size := by simp
  clear hnew
  generalize w.drew.alloc (.cells (Builtin.zeroCells (Value.int .u8 0).cells n ++ Builtin.zeroCells (Value.int .u8 0).cells (gc - n)) 5) = W1 at *
  generalize Builtin.zeroCells (Value.int .u8 0).cells n ++ Builtin.zeroCells (Value.int .u8 0).cells (gc - n) = arr at *
  have hcell : ∀ k, W1.cell? ⟨w.heap.size, k, none⟩ = arr[k]? := fun k => by simp [World.cell?, hnew2]
  have hfro : ∀ k, W1.frozen? ⟨w.heap.size, k, none⟩ = false := fun k => by simp [World.frozen?, hnew2]
  refine .inr ⟨w.heap.size, 0, gc, rfl, Nat.le_refl _, hsize, Nat.zero_le _, by omega, (fun j v hv => by cases hv), fun j hj => ?_⟩
  rw [Nat.zero_add, hcell, hfro]
  exact ⟨by rw [Array.getElem?_eq_getElem (by rw [hsz]; exact hj)]; rfl, rfl⟩
set_option maxRecDepth 100000 in
set_option maxHeartbeats 4000000 in
theorem grow_nil (n : Nat) (h0 : 0 < n) (hn : n ≤ 1000000000) (w : World) :
    Calls Tryz.prog 37 #[.slice none 0 0, .int .i64 (n : Int)] w fun e w' => (∃ g c, e = .returned (.slice (some ⟨g, 0, none⟩) 0 c) ∧ Mid w' w.heap.size (.slice (some ⟨g, 0, none⟩) 0 c) 0 []) ∧ Below w.heap.size w w' := by
  obtain ⟨i, hi, hz0, hz1, hz2⟩ := info_parts u8info
  obtain ⟨c, hc, hnc, hcm, hmid⟩ := mid_zeros w n hn
  have hra := fun ty => Lib.run_append_nil_zeros (P := Tryz.prog) w 22 3 ty 5 i (.int .u8 0) .i64 .i64 Tryz.underlying22 Tryz.underlying3 hi hz0 n h0 (by omega) (by omega) (by rw [hz2]; omega)
  rw [hc] at hra
  have HM := Lib.hid hmid
  have HB : Hid (Below w.heap.size w (w.drew.alloc (.cells (Builtin.zeroCells (Value.int .u8 0).cells n ++ Builtin.zeroCells (Value.int .u8 0).cells (c - n)) 5))) := (Below.refl _ _).drew.alloc (Nat.le_refl _) _
  clear hmid hc
  generalize w.drew.alloc (.cells (Builtin.zeroCells (Value.int .u8 0).cells n ++ Builtin.zeroCells (Value.int .u8 0).cells (c - n)) 5) = W1 at *
  have n1 : ¬ (n : Int) < 0 := by omega
  have n2 : (n : Int) > 0 := by omega
  have n3 : (0 : Int) < n := by omega
  have hw0 : wrap64 (n : Int) = n := IntWalk.wrap64_in _ (by omega)
  have HRA := Lib.hid hra
  have hsl := fun g W => slice_to (some ⟨g, 0, none⟩) n c 0 (Nat.zero_le _) W
  clear hra
  go_enter Tryz.func37, Tryz.ntmps37
  have tok : True := trivial
  go_wp2_with (
    have _t := tok
    at_builtin
    refine Lib.wpList_append_run _ rfl _ _ _ _ rfl _ _ rfl rfl _ _ (HRA.out _) ?_
    clear tok
    refine Hid.out ?_)
  refine unhid ?_
  go_wp2_with fail
  go_ret
  exact ⟨⟨_, _, rfl, HM.out⟩, HB.out⟩
end Go.Proofs.YtglgchjkonjpiaaGreatDoor
