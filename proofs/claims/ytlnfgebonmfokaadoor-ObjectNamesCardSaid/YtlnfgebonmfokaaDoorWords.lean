/- SHA-1's words of one block: the walk. -/
import Derived.Test.YtlnfgebonmfokaaDoorMix1
import Derived.BigQuiet
import Derived.Deep.QuietTactic
import Derived.Deep.RegionWith
import Derived.StillTailTactics
import Derived.WalkSmall
import Derived.IntWalk
import Derived.Laws.Tables
import Derived.Laws.CopyOwn
namespace Go.Proofs.YtlnfgebonmfokaaDoor
open Go.RowKit Plain
set_option linter.unusedVariables false

def V8 (bs : List Int) : Array Value := (bs.map (Value.int .u8)).toArray
theorem V8_get (bs : List Int) (k : Nat) (h : k < bs.length) : (V8 bs)[k]? = some (.int .u8 (bs[k]?.getD 0)) := by
  simp [V8, h]
theorem V8_size (bs : List Int) : (V8 bs).size = bs.length := by simp [V8]
/-- The first k words, and noughts behind. -/
def W80 (bs : List Int) (k : Nat) : Array Value := V32 (wordsTo bs k ++ List.replicate (80 - k) 0#32)
theorem zero_80 (bs : List Int) (w : World) : (zeroValue 52).run Tryd.prog w = .ok (.agg (W80 bs 0)) w := by
  show _ = Result.ok (Value.agg (V32 (List.replicate 80 0#32))) w
  kernel_rfl
theorem W80_set (bs : List Int) (k : Nat) (h : k < 80) (x : BitVec 32) (hx : x = if k < 16 then word0 bs k else rotl ((wordsTo bs k)[k - 3]?.getD 0 ^^^ (wordsTo bs k)[k - 8]?.getD 0 ^^^ (wordsTo bs k)[k - 14]?.getD 0 ^^^ (wordsTo bs k)[k - 16]?.getD 0) 1) :
    (W80 bs k).setIfInBounds k (.int .u32 (x.toNat : Int)) = W80 bs (k + 1) := by
  unfold W80 V32
  apply Array.toList_inj.1
  rw [Array.toList_setIfInBounds, List.map_append, List.map_append]
  rw [List.set_append_right _ _ (by simp [wordsTo_length])]
  rw [show 80 - k = (80 - (k + 1)) + 1 by omega, List.replicate_succ]
  simp only [List.length_map, wordsTo_length, Nat.sub_self, List.map_cons, List.set_cons_zero]
  rw [wordsTo, ← hx]
  simp
theorem W80_get (bs : List Int) (k j : Nat) (h : j < k) (hk : k ≤ 80) : (W80 bs k)[j]? = some (.int .u32 (((wordsTo bs k)[j]?.getD 0).toNat : Int)) := by
  unfold W80
  rw [V32_get _ _ (by simp [wordsTo_length]; omega), List.getElem?_append_left (by simp [wordsTo_length]; omega)]
theorem W80_size (bs : List Int) (k : Nat) (hk : k ≤ 80) : (W80 bs k).size = 80 := by
  unfold W80; rw [V32_size]; simp [wordsTo_length]; omega
set_option maxRecDepth 100000 in
theorem slice_64 (B k : Nat) (hk : k < 16) (w : World) : (Instr.sliceAt 50 (.pointer (some ⟨B, 0, none⟩)) (some (.int .i64 (4 * (k : Int)))) (some (.int .i64 (4 * (k : Int) + 4))) none).run Tryd.prog w = .ok (.slice (some ⟨B, 4 * k, none⟩) 4 (64 - 4 * k)) w := by
  have hal : Tryd.prog.arrayLen 50 = 64 := by kernel_rfl
  have hsz : ∀ W : World, (sizeOf (Tryd.prog.elem 50)).run Tryd.prog W = .ok 1 W := fun W => by kernel_rfl
  rw [run_sliceAt_array_lh (P := Tryd.prog) w 50 ⟨B, 0, none⟩ (by kernel_rfl) .i64 .i64 (4 * (k : Int)) (4 * (k : Int) + 4) (by omega) (by omega) (by rw [hal]; omega), hsz, hal]
  have e1 : (4 * (k : Int)).toNat = 4 * k := by omega
  have e2 : (4 * (k : Int) + 4).toNat = 4 * k + 4 := by omega
  simp only [Result.andThen_ok, slicedAt, e1, e2, Nat.mul_one]
  rw [if_neg (by omega), show 4 * k + 4 - 4 * k = 4 by omega]
  congr 3
  unfold Addr.add
  split <;> simp_all
set_option maxRecDepth 100000 in
set_option maxHeartbeats 4000000 in
theorem words_any (bs : List Int) (w : World) (hl : bs.length = 64) (hb : ∀ j : Nat, 0 ≤ bs[j]?.getD 0 ∧ bs[j]?.getD 0 ≤ 255) :
    Calls Tryd.prog 27 #[.agg (V8 bs)] w fun r w' => r = .returned (.agg (V32 (wordsTo bs 80))) ∧ Below w.heap.size w w' := by
  have HB : Hid (∀ j : Nat, 0 ≤ bs[j]?.getD 0 ∧ bs[j]?.getD 0 ≤ 255) := hb
  have HLEN : Hid (bs.length = 64) := hl
  clear hl hb
  have hz := zero_80 bs
  go_enter Tryd.func27, Tryd.ntmps27
  go_wp2_with fail
  clear hz
  obtain ⟨h0, h1, h2, hb, hs⟩ := three_blocks w (.cells (V8 bs) 50) (.cells (W80 bs 0) 52) (.cells (W80 bs 0) 52)
  generalize ((w.alloc (.cells (V8 bs) 50)).alloc (.cells (W80 bs 0) 52)).alloc (.cells (W80 bs 0) 52) = w0 at *
  have H0 : Hid (w0.heap[w.heap.size]? = some (.cells (V8 bs) 50 (0, 0))) := h0
  have H1 : Hid (w0.heap[w.heap.size + 1]? = some (.cells (W80 bs 0) 52 (0, 0))) := h1
  have H2 : Hid (w0.heap[w.heap.size + 1 + 1]? = some (.cells (W80 bs 0) 52 (0, 0))) := h2
  clear h0 h1 h2 hs
  go_loopw [7] (fun i wr => ∃ k : Nat, k ≤ 16 ∧ i = .int .i64 k ∧ wr.heap[w.heap.size]? = some (.cells (V8 bs) 50 (0, 0)) ∧ wr.heap[w.heap.size + 1]? = some (.cells (W80 bs 0) 52 (0, 0)) ∧ wr.heap[w.heap.size + 1 + 1]? = some (.cells (W80 bs k) 52 (0, 0)) ∧ Below w.heap.size w wr) (fun i _ => 16 - (intOf i).toNat)
  case atStart => exact ⟨0, by omega, rfl, H0.out, H1.out, H2.out, hb⟩
  case round =>
    obtain ⟨k, hk, rfl, h0, h1, h2, hbel⟩ := hrel
    have G0 : Hid (wr.heap[w.heap.size]? = some (.cells (V8 bs) 50 (0, 0))) := h0
    have G1 : Hid (wr.heap[w.heap.size + 1]? = some (.cells (W80 bs 0) 52 (0, 0))) := h1
    have G2 : Hid (wr.heap[w.heap.size + 1 + 1]? = some (.cells (W80 bs k) 52 (0, 0))) := h2
    clear h0 h1 h2 hb H0 H1 H2
    by_cases h16 : k < 16
    · have b0 := HB.out (4 * k)
      have b1 := HB.out (4 * k + 1)
      have b2 := HB.out (4 * k + 2)
      have b3 := HB.out (4 * k + 3)
      have e0 : wr.cell? ⟨w.heap.size, 4 * k, none⟩ = some (.int .u8 (bs[4 * k]?.getD 0)) := by rw [cell_of_row wr _ _ _ _ _ G0.out, V8_get bs _ (by rw [HLEN.out]; omega)]
      have e1 : wr.cell? ⟨w.heap.size, 4 * k + 1, none⟩ = some (.int .u8 (bs[4 * k + 1]?.getD 0)) := by rw [cell_of_row wr _ _ _ _ _ G0.out, V8_get bs _ (by rw [HLEN.out]; omega)]
      have e2 : wr.cell? ⟨w.heap.size, 4 * k + 2, none⟩ = some (.int .u8 (bs[4 * k + 2]?.getD 0)) := by rw [cell_of_row wr _ _ _ _ _ G0.out, V8_get bs _ (by rw [HLEN.out]; omega)]
      have e3 : wr.cell? ⟨w.heap.size, 4 * k + 3, none⟩ = some (.int .u8 (bs[4 * k + 3]?.getD 0)) := by rw [cell_of_row wr _ _ _ _ _ G0.out, V8_get bs _ (by rw [HLEN.out]; omega)]
      obtain ⟨ov, ho⟩ : ∃ ov, wr.cell? ⟨w.heap.size + 1 + 1, k, none⟩ = some ov := ⟨_, by rw [cell_of_row wr _ _ _ _ _ G2.out, Array.getElem?_eq_getElem (by rw [W80_size bs k (by omega)]; omega)]⟩
      have fo := frozen_of_row wr (w.heap.size + 1 + 1) k (W80 bs k) 52 G2.out
      have i0 : (k : Int) < 80 := by omega
      have i1 : 4 * (k : Int) + 4 ≤ 64 := by omega
      have i2 : ¬ 4 * k = 64 := by omega
      have hsl := slice_64 w.heap.size k h16
      have f16 : (k : Int) < 16 := by omega
      have HW0 : Hid (word0 bs k = BitVec.ofInt 32 (bs[4 * k]?.getD 0 * 16777216 + bs[4 * k + 1]?.getD 0 * 65536 + bs[4 * k + 2]?.getD 0 * 256 + bs[4 * k + 3]?.getD 0)) := rfl
      generalize bs[4 * k]?.getD 0 = x0 at *
      generalize bs[4 * k + 1]?.getD 0 = x1 at *
      generalize bs[4 * k + 2]?.getD 0 = x2 at *
      generalize bs[4 * k + 3]?.getD 0 = x3 at *
      go_wp2_with fail
      go_region
      go_wp2_with fail
      go_roundw
      case rel =>
        refine ⟨k + 1, by omega, by go_num, ?_, ?_, ?_, (hbel.setCell (by show w.heap.size ≤ w.heap.size + 1 + 1; omega) _).drew⟩
        · exact (Below.heap_setCell wr _ _ _ (by show w.heap.size ≠ w.heap.size + 1 + 1; omega)).trans G0.out
        · exact (Below.heap_setCell wr _ _ _ (by show w.heap.size + 1 ≠ w.heap.size + 1 + 1; omega)).trans G1.out
        · refine (heap_setCell_same wr (w.heap.size + 1 + 1) k _ _ _ G2.out).trans ?_
          rw [word_eq x0 x1 x2 x3 b0 b1 b2 b3, ← HW0.out, W80_set bs k (by omega) _ (by rw [if_pos h16])]
      case measure => simp [intOf]; omega
    · obtain rfl : k = 16 := by omega
      have f16 : ¬ ((16 : Nat) : Int) < 16 := by omega
      go_wp2_with fail
      go_loopw [6] (fun i wr => ∃ k : Nat, 16 ≤ k ∧ k ≤ 80 ∧ i = .int .i64 k ∧ wr.heap[w.heap.size]? = some (.cells (V8 bs) 50 (0, 0)) ∧ wr.heap[w.heap.size + 1]? = some (.cells (W80 bs 0) 52 (0, 0)) ∧ wr.heap[w.heap.size + 1 + 1]? = some (.cells (W80 bs k) 52 (0, 0)) ∧ Below w.heap.size w wr) (fun i _ => 80 - (intOf i).toNat)
      case atStart => exact ⟨16, by omega, by omega, rfl, G0.out, G1.out, G2.out, hbel⟩
      case round =>
        clear hbel G0 G1 G2 f16 h16 hk
        obtain ⟨k, hk0, hk, rfl, h0, h1, h2, hbel⟩ := hrel
        have K0 : Hid (wr.heap[w.heap.size]? = some (.cells (V8 bs) 50 (0, 0))) := h0
        have K1 : Hid (wr.heap[w.heap.size + 1]? = some (.cells (W80 bs 0) 52 (0, 0))) := h1
        have K2 : Hid (wr.heap[w.heap.size + 1 + 1]? = some (.cells (W80 bs k) 52 (0, 0))) := h2
        clear h0 h1 h2
        by_cases h80 : k < 80
        · have f80 : (k : Int) < 80 := by omega
          have f16 : 16 ≤ (k : Int) := by omega
          have e3 : wr.cell? ⟨w.heap.size + 1 + 1, k - 3, none⟩ = some (.int .u32 (((wordsTo bs k)[k - 3]?.getD 0).toNat : Int)) := by rw [cell_of_row wr _ _ _ _ _ K2.out, W80_get bs k (k - 3) (by omega) hk]
          have e8 : wr.cell? ⟨w.heap.size + 1 + 1, k - 8, none⟩ = some (.int .u32 (((wordsTo bs k)[k - 8]?.getD 0).toNat : Int)) := by rw [cell_of_row wr _ _ _ _ _ K2.out, W80_get bs k (k - 8) (by omega) hk]
          have e14 : wr.cell? ⟨w.heap.size + 1 + 1, k - 14, none⟩ = some (.int .u32 (((wordsTo bs k)[k - 14]?.getD 0).toNat : Int)) := by rw [cell_of_row wr _ _ _ _ _ K2.out, W80_get bs k (k - 14) (by omega) hk]
          have e16 : wr.cell? ⟨w.heap.size + 1 + 1, k - 16, none⟩ = some (.int .u32 (((wordsTo bs k)[k - 16]?.getD 0).toNat : Int)) := by rw [cell_of_row wr _ _ _ _ _ K2.out, W80_get bs k (k - 16) (by omega) hk]
          obtain ⟨ov, ho⟩ : ∃ ov, wr.cell? ⟨w.heap.size + 1 + 1, k, none⟩ = some ov := ⟨_, by rw [cell_of_row wr _ _ _ _ _ K2.out, Array.getElem?_eq_getElem (by rw [W80_size bs k (by omega)]; omega)]⟩
          have fo := frozen_of_row wr (w.heap.size + 1 + 1) k (W80 bs k) 52 K2.out
          have HS : Hid (∀ x, x = rotl ((wordsTo bs k)[k - 3]?.getD 0 ^^^ (wordsTo bs k)[k - 8]?.getD 0 ^^^ (wordsTo bs k)[k - 14]?.getD 0 ^^^ (wordsTo bs k)[k - 16]?.getD 0) 1 → (W80 bs k).setIfInBounds k (.int .u32 (x.toNat : Int)) = W80 bs (k + 1)) := fun x hx => W80_set bs k (by omega) x (by rw [if_neg (by omega)]; exact hx)
          generalize (wordsTo bs k)[k - 3]?.getD 0 = y3 at *
          generalize (wordsTo bs k)[k - 8]?.getD 0 = y8 at *
          generalize (wordsTo bs k)[k - 14]?.getD 0 = y14 at *
          generalize (wordsTo bs k)[k - 16]?.getD 0 = y16 at *
          have g3 : 0 ≤ (k : Int) - 3 ∧ (k : Int) - 3 < 80 := by omega
          obtain ⟨g3a, g3b⟩ := g3
          have g8 : 0 ≤ (k : Int) - 8 ∧ (k : Int) - 8 < 80 := by omega
          obtain ⟨g8a, g8b⟩ := g8
          have g14 : 0 ≤ (k : Int) - 14 ∧ (k : Int) - 14 < 80 := by omega
          obtain ⟨g14a, g14b⟩ := g14
          have g16 : 0 ≤ (k : Int) - 16 ∧ (k : Int) - 16 < 80 := by omega
          obtain ⟨g16a, g16b⟩ := g16
          go_wp2_with fail
          have s3 : IntKind.i64.wrap ((k : Int) - 3) = (k : Int) - 3 := IntWalk.i64_in _ (by omega)
          have s8 : IntKind.i64.wrap ((k : Int) - 8) = (k : Int) - 8 := IntWalk.i64_in _ (by omega)
          have s14 : IntKind.i64.wrap ((k : Int) - 14) = (k : Int) - 14 := IntWalk.i64_in _ (by omega)
          have s16 : IntKind.i64.wrap ((k : Int) - 16) = (k : Int) - 16 := IntWalk.i64_in _ (by omega)
          have t3 : ((k : Int) - 3).toNat = k - 3 := by omega
          have t8 : ((k : Int) - 8).toNat = k - 8 := by omega
          have t14 : ((k : Int) - 14).toNat = k - 14 := by omega
          have t16 : ((k : Int) - 16).toNat = k - 16 := by omega
          have q3 : (3 : Int) ≤ k := by omega
          have q8 : (8 : Int) ≤ k := by omega
          have q14 : (14 : Int) ≤ k := by omega
          have harg : bits .xor .u32 (bits .xor .u32 (bits .xor .u32 (y3.toNat : Int) (y8.toNat : Int)) (y14.toNat : Int)) (y16.toNat : Int) = ((y3 ^^^ y8 ^^^ y14 ^^^ y16).toNat : Int) := by
            rw [x_xor, x_xor, x_xor]
          have HA : Hid (bits .xor .u32 (bits .xor .u32 (bits .xor .u32 (y3.toNat : Int) (y8.toNat : Int)) (y14.toNat : Int)) (y16.toNat : Int) = ((y3 ^^^ y8 ^^^ y14 ^^^ y16).toNat : Int)) := harg
          clear harg
          go_still_tail 22, (by kernel_rfl)
          refine wpStill_step (fun K hK => ?_)
          go_simp
          refine ⟨.int .u32 (rotl (y3 ^^^ y8 ^^^ y14 ^^^ y16) 1).toNat, ?_, hK _ ?_⟩
          · rw [HA.out]
            exact (rot_1 _ _).mono (fun e w' h => ⟨h.1, h.2.symm⟩)
          clear hK K
          repeat still_step
          try refine wpStill_nil ?_
          go_wp2_with fail
          refine ⟨⟨k + 1, by omega, by omega, by go_num, ?_, ?_, ?_, (hbel.setCell (by show w.heap.size ≤ w.heap.size + 1 + 1; omega) _).drew⟩, by simp [intOf]; omega⟩
          · exact (Below.heap_setCell wr _ _ _ (by show w.heap.size ≠ w.heap.size + 1 + 1; omega)).trans K0.out
          · exact (Below.heap_setCell wr _ _ _ (by show w.heap.size + 1 ≠ w.heap.size + 1 + 1; omega)).trans K1.out
          · refine (heap_setCell_same wr (w.heap.size + 1 + 1) k _ _ _ K2.out).trans ?_
            rw [HS.out _ rfl]
        · obtain rfl : k = 80 := by omega
          have f80 : ¬ ((80 : Nat) : Int) < 80 := by omega
          have hw80 : W80 bs 80 = V32 (wordsTo bs 80) := by unfold W80; simp
          have hln : (V32 (wordsTo bs 80)).size = 80 := by rw [V32_size, wordsTo_length]
          have hl0 : (W80 bs 0).size = 80 := W80_size bs 0 (by omega)
          have hone : (V32 (wordsTo bs 80)).all (·.oneCell') = true := by
            rw [Array.all_eq_true_iff_forall_mem]; intro v hv; unfold V32 at hv; simp at hv; obtain ⟨x, _, rfl⟩ := hv; rfl
          have HI : Hid ((Tryd.prog.info? 52).map (·.size) = some (V32 (wordsTo bs 80)).size) := by
            show (Tryd.prog.info? 52).map (·.size) = some (V32 (wordsTo bs 80)).size
            rw [hln]; kernel_rfl
          have K3 : Hid (wr.heap[w.heap.size + 1 + 1]? = some (.cells (V32 (wordsTo bs 80)) 52 (0, 0))) := by
            show wr.heap[w.heap.size + 1 + 1]? = some (.cells (V32 (wordsTo bs 80)) 52 (0, 0))
            rw [← hw80]; exact K2.out
          have HL : Hid ((W80 bs 0).size = (V32 (wordsTo bs 80)).size) := by show (W80 bs 0).size = (V32 (wordsTo bs 80)).size; rw [hl0, hln]
          have HO : Hid ((V32 (wordsTo bs 80)).all (·.oneCell') = true) := hone
          clear hone hl0 hln hw80 K2
          obtain ⟨ws, hws⟩ : ∃ ws, wordsTo bs 80 = ws := ⟨_, rfl⟩
          rw [hws] at K3 HI HL HO
          have HWS : Hid (wordsTo bs 80 = ws) := hws
          clear hws
          have tok1 : True := trivial
          have tok2 : True := trivial
          go_wp2_with (first
            | (have _t := tok1; refine wpList_load_row rfl 52 _ rfl (w.heap.size + 1 + 1) rfl 52 (V32 ws) (0, 0) (.array 80 48) K3.out Tryd.underlying52 rfl HI.out ?_; clear tok1)
            | (have _t := tok2; refine wpList_store_row rfl 52 _ _ rfl (w.heap.size + 1) (V32 ws) rfl rfl 52 (W80 bs 0) K1.out HI.out HL.out HO.out ?_; clear tok2))
          refine bodyPost_ret (results_cell_row Tryd.results27 _ _ (w.heap.size + 1) 52 _ (0, 0) (.array 80 48) rfl (setRow_heap wr _ _ _ _ _ K1.out) Tryd.underlying52 rfl HI.out) rfl ⟨by rw [HWS.out], ?_⟩
          exact below_setRow hbel (by omega) _
end Go.Proofs.YtlnfgebonmfokaaDoor
