/- The block at a place: the walk. -/
import Derived.Test.YtkpnmagcmpljoaaAlike
import Derived.Laws.CopyOwn
namespace Go.Proofs.Ytkpnmagcmpljoaa
open Go.RowKit
set_option linter.unusedVariables false
def blockOf (bs : List Int) (p : Nat) : Array Value := (U8 ((bs.drop p).take 16)).toArray
theorem blockOf_size (bs : List Int) (p : Nat) (h : p + 16 ≤ bs.length) : (blockOf bs p).size = 16 := by
  unfold blockOf
  rw [List.size_toArray, U8_length, List.length_take, List.length_drop]; omega
theorem blockOf_one (bs : List Int) (p : Nat) : (blockOf bs p).all (·.oneCell') = true := by
  rw [Array.all_eq_true_iff_forall_mem]; intro v hv; have hv' : v ∈ U8 ((bs.drop p).take 16) := by simpa only [blockOf, List.mem_toArray] using hv
  unfold U8 at hv'; rw [List.mem_map] at hv'; obtain ⟨x, _, rfl⟩ := hv'; rfl
theorem slice_block (B : Nat) (w : World) : (Instr.sliceAt 63 (.pointer (some ⟨B, 0, none⟩)) none none none).run Try.prog w = .ok (.slice (some ⟨B, 0, none⟩) 16 16) w := by
  have hal : Try.prog.arrayLen 63 = 16 := by kernel_rfl
  have hsz : ∀ W : World, (sizeOf (Try.prog.elem 63)).run Try.prog W = .ok 1 W := fun W => by kernel_rfl
  rw [run_sliceAt_array_all (P := Try.prog) w 63 ⟨B, 0, none⟩ (by kernel_rfl), hal]
  try rw [hsz]
  try simp [Result.andThen_ok, slicedAt]
  try (unfold Addr.add; split <;> simp_all)
set_option maxRecDepth 100000 in
set_option maxHeartbeats 8000000 in
theorem blockAt_any (a : Option Addr) (m c : Nat) (bs : List Int) (hmc : m ≤ c) (hcm : c ≤ 9223372036854775807) (p : Nat) (hp : p + 16 ≤ m) (w : World) (H : Bytes w a m bs) :
    Calls Try.prog 31 #[.slice a m c, .int .i64 (p : Int)] w fun e w' => e = .returned (.agg (blockOf bs p)) ∧ Below w.heap.size w w' := by
  have hbl : bs.length = m := H.1
  have HBS : Hid ((blockOf bs p).size = 16) := blockOf_size bs p (by omega)
  have HBO := Lib.hid (blockOf_one bs p)
  have HCL : Hid ((blockOf bs p).toList.length = 16) := by show _ = _; rw [Array.length_toList]; exact HBS.out
  have HCO : Hid (∀ v ∈ (blockOf bs p).toList, v.oneCell' = true) := fun v hv => by
    have hv' : v ∈ U8 ((bs.drop p).take 16) := by simpa only [blockOf] using hv
    unfold U8 at hv'; rw [List.mem_map] at hv'; obtain ⟨x, _, rfl⟩ := hv'; rfl
  have HSRC : Hid (∃ ad, subA a c p = some ad ∧ ∀ W, Below w.heap.size w W → ∀ j v, (blockOf bs p).toList[j]? = some v → W.cell? (ad.add j) = some v) := by
    obtain ⟨b, off, rfl⟩ : ∃ b off, a = some ⟨b, off, none⟩ := by
      rcases H.2.2.2 with h | ⟨b, off, rfl, -⟩
      · omega
      · exact ⟨b, off, rfl⟩
    refine ⟨⟨b, off + p, none⟩, ?_, ?_⟩
    · unfold subA
      rw [if_neg (by omega)]
      show some (Addr.add _ _) = _
      rw [Addr.add_mid]
    · intro W hW j v hv
      obtain ⟨-, -, -, h0 | ⟨b', o', ha, hc⟩⟩ := H.below hW
      · omega
      · injection ha with ha
        injection ha with e1 e2 e3
        subst e1 e2
        have hj : j < 16 := by
          have := (List.getElem?_eq_some_iff.1 hv).1
          rw [HCL.out] at this; exact this
        rw [Addr.add_mid, Nat.add_assoc, hc (p + j) (by omega), ← hv]
        unfold blockOf U8
        simp [hj, List.getElem?_eq_getElem (show p + j < bs.length by omega)]
  have HI : Hid ((Try.prog.info? 63).map (·.size) = some (blockOf bs p).size) := by
    show _ = _; rw [HBS.out]; kernel_rfl
  clear H
  generalize blockOf bs p = row at *
  go_enter Try.func31, Try.ntmps31
  go_wp2_with fail
  have HB1 : Hid (Below (w.heap.size + 1) (w.alloc (.cells #[.int .u8 0, .int .u8 0, .int .u8 0, .int .u8 0, .int .u8 0, .int .u8 0, .int .u8 0, .int .u8 0, .int .u8 0, .int .u8 0, .int .u8 0, .int .u8 0, .int .u8 0, .int .u8 0, .int .u8 0, .int .u8 0] 63)) ((w.alloc (.cells #[.int .u8 0, .int .u8 0, .int .u8 0, .int .u8 0, .int .u8 0, .int .u8 0, .int .u8 0, .int .u8 0, .int .u8 0, .int .u8 0, .int .u8 0, .int .u8 0, .int .u8 0, .int .u8 0, .int .u8 0, .int .u8 0] 63)).alloc (.cells #[.int .u8 0, .int .u8 0, .int .u8 0, .int .u8 0, .int .u8 0, .int .u8 0, .int .u8 0, .int .u8 0, .int .u8 0, .int .u8 0, .int .u8 0, .int .u8 0, .int .u8 0, .int .u8 0, .int .u8 0, .int .u8 0] 63))) := (Below.refl _ _).alloc (by simp) _
  have HB0 : Hid (Below w.heap.size w (w.alloc (.cells #[.int .u8 0, .int .u8 0, .int .u8 0, .int .u8 0, .int .u8 0, .int .u8 0, .int .u8 0, .int .u8 0, .int .u8 0, .int .u8 0, .int .u8 0, .int .u8 0, .int .u8 0, .int .u8 0, .int .u8 0, .int .u8 0] 63))) := (Below.refl _ _).alloc (Nat.le_refl _) _
  have HN4 : Hid (((w.alloc (.cells #[.int .u8 0, .int .u8 0, .int .u8 0, .int .u8 0, .int .u8 0, .int .u8 0, .int .u8 0, .int .u8 0, .int .u8 0, .int .u8 0, .int .u8 0, .int .u8 0, .int .u8 0, .int .u8 0, .int .u8 0, .int .u8 0] 63)).alloc (.cells #[.int .u8 0, .int .u8 0, .int .u8 0, .int .u8 0, .int .u8 0, .int .u8 0, .int .u8 0, .int .u8 0, .int .u8 0, .int .u8 0, .int .u8 0, .int .u8 0, .int .u8 0, .int .u8 0, .int .u8 0, .int .u8 0] 63)).heap[w.heap.size]? = some (.cells ([.int .u8 0, .int .u8 0, .int .u8 0, .int .u8 0, .int .u8 0, .int .u8 0, .int .u8 0, .int .u8 0, .int .u8 0, .int .u8 0, .int .u8 0, .int .u8 0, .int .u8 0, .int .u8 0, .int .u8 0, .int .u8 0] : List Value).toArray 63 (0, 0))) :=
    (HB1.out.block w.heap.size (Nat.lt_succ_self _)).trans (heap_alloc_new w _)
  have HN5 : Hid (((w.alloc (.cells #[.int .u8 0, .int .u8 0, .int .u8 0, .int .u8 0, .int .u8 0, .int .u8 0, .int .u8 0, .int .u8 0, .int .u8 0, .int .u8 0, .int .u8 0, .int .u8 0, .int .u8 0, .int .u8 0, .int .u8 0, .int .u8 0] 63)).alloc (.cells #[.int .u8 0, .int .u8 0, .int .u8 0, .int .u8 0, .int .u8 0, .int .u8 0, .int .u8 0, .int .u8 0, .int .u8 0, .int .u8 0, .int .u8 0, .int .u8 0, .int .u8 0, .int .u8 0, .int .u8 0, .int .u8 0] 63)).heap[w.heap.size + 1]? = some (.cells ([.int .u8 0, .int .u8 0, .int .u8 0, .int .u8 0, .int .u8 0, .int .u8 0, .int .u8 0, .int .u8 0, .int .u8 0, .int .u8 0, .int .u8 0, .int .u8 0, .int .u8 0, .int .u8 0, .int .u8 0, .int .u8 0] : List Value).toArray 63 (0, 0))) := by
    have := heap_alloc_new (w.alloc (.cells #[.int .u8 0, .int .u8 0, .int .u8 0, .int .u8 0, .int .u8 0, .int .u8 0, .int .u8 0, .int .u8 0, .int .u8 0, .int .u8 0, .int .u8 0, .int .u8 0, .int .u8 0, .int .u8 0, .int .u8 0, .int .u8 0] 63)) (.cells #[.int .u8 0, .int .u8 0, .int .u8 0, .int .u8 0, .int .u8 0, .int .u8 0, .int .u8 0, .int .u8 0, .int .u8 0, .int .u8 0, .int .u8 0, .int .u8 0, .int .u8 0, .int .u8 0, .int .u8 0, .int .u8 0] 63)
    rw [World.size_alloc] at this
    exact this
  have HBW : Hid (Below w.heap.size w ((w.alloc (.cells #[.int .u8 0, .int .u8 0, .int .u8 0, .int .u8 0, .int .u8 0, .int .u8 0, .int .u8 0, .int .u8 0, .int .u8 0, .int .u8 0, .int .u8 0, .int .u8 0, .int .u8 0, .int .u8 0, .int .u8 0, .int .u8 0] 63)).alloc (.cells #[.int .u8 0, .int .u8 0, .int .u8 0, .int .u8 0, .int .u8 0, .int .u8 0, .int .u8 0, .int .u8 0, .int .u8 0, .int .u8 0, .int .u8 0, .int .u8 0, .int .u8 0, .int .u8 0, .int .u8 0, .int .u8 0] 63))) := HB0.out.trans (HB1.out.mono (Nat.le_succ _))
  generalize (w.alloc (.cells #[.int .u8 0, .int .u8 0, .int .u8 0, .int .u8 0, .int .u8 0, .int .u8 0, .int .u8 0, .int .u8 0, .int .u8 0, .int .u8 0, .int .u8 0, .int .u8 0, .int .u8 0, .int .u8 0, .int .u8 0, .int .u8 0] 63)).alloc (.cells #[.int .u8 0, .int .u8 0, .int .u8 0, .int .u8 0, .int .u8 0, .int .u8 0, .int .u8 0, .int .u8 0, .int .u8 0, .int .u8 0, .int .u8 0, .int .u8 0, .int .u8 0, .int .u8 0, .int .u8 0, .int .u8 0] 63) = w2 at *
  clear HB0 HB1
  obtain ⟨ZL, hZL⟩ : ∃ ZL : List Value, ZL = ([.int .u8 0, .int .u8 0, .int .u8 0, .int .u8 0, .int .u8 0, .int .u8 0, .int .u8 0, .int .u8 0, .int .u8 0, .int .u8 0, .int .u8 0, .int .u8 0, .int .u8 0, .int .u8 0, .int .u8 0, .int .u8 0] : List Value) := ⟨_, rfl⟩
  rw [← hZL] at HN4 HN5
  have HZL : Hid (ZL.length = 16) := by rw [hZL]; rfl
  clear hZL
  have s5 := slice_block (w.heap.size + 1)
  have s0 := slice_from a m c p (by omega) hmc
  obtain ⟨sa, hsa⟩ : ∃ sa, subA a c p = sa := ⟨_, rfl⟩
  rw [hsa] at HSRC s0
  clear hsa
  obtain ⟨sm, hsm⟩ : ∃ sm, m - p = sm := ⟨_, rfl⟩
  have hsm16 : 16 ≤ sm := by omega
  obtain ⟨sc, hsc⟩ : ∃ sc, c - p = sc := ⟨_, rfl⟩
  rw [hsm, hsc] at s0
  clear hsm hsc
  have HCN : Hid (row.toList.length = Nat.min sm 16) := by show _ = _; rw [HCL.out]; exact (Nat.min_eq_right hsm16).symm
  have HPOS : Hid (∀ W, Below w.heap.size w W → 0 < row.toList.length → some (⟨w.heap.size + 1, 0, none⟩ : Addr) = some ⟨w.heap.size + 1, 0, none⟩ ∧ ∃ ad, sa = some ad ∧ ∀ j v, row.toList[j]? = some v → W.cell? (ad.add j) = some v) := fun W hW _ => by
    obtain ⟨ad, e, h⟩ := HSRC.out
    exact ⟨rfl, ad, e, h W hW⟩
  clear HSRC
  go_region_law (refine step_copy_splice rfl (.tmp 6) (.tmp 9) 22 22 rfl 5 Try.underlying22 (by kernel_rfl) (some ⟨w.heap.size + 1, 0, none⟩) sa 16 16 sm sc rfl rfl (w.heap.size + 1) 0 ZL 63 HN5.out row.toList HCN.out (HPOS.out _ HBW.out.drew) (by rw [HCL.out, HZL.out]; omega) HCO.out (w.heap.size + 1) w2 (Below.refl _ _).drew (Nat.le_refl _) ?_; intro w4 hg4 hb4)
  all_goals
    have HB4 := Lib.hid hb4
    have HW4 : Hid (Below w.heap.size w w4) := HBW.out.trans (hb4.mono (Nat.le_succ _))
    have HM4 : Hid (w4.heap[w.heap.size]? = some (.cells ZL.toArray 63 (0, 0))) := (HB4.out.block w.heap.size (Nat.lt_succ_self _)).trans HN4.out
    have HM5 : Hid (w4.heap[w.heap.size + 1]? = some (.cells row 63 (0, 0))) := by
      have := hg4.out
      unfold splice at this
      rw [HCL.out, List.take_zero, List.drop_of_length_le (by rw [HZL.out]; omega), List.nil_append, List.append_nil] at this
      exact this
    clear hb4 hg4 HB4
    have tok : True := trivial
    have tok2 : True := trivial
    go_wp2_with (first
      | (have _t := tok; refine wpList_load_row rfl 63 _ rfl (w.heap.size + 1) rfl 63 row (0, 0) (.array 16 5) HM5.out Try.underlying63 rfl HI.out ?_; clear tok)
      | (have _t := tok2; refine wpList_store_row rfl 63 (.tmp 4) (.tmp 11) rfl w.heap.size row rfl rfl 63 ZL.toArray HM4.out HI.out (by rw [HBS.out, List.size_toArray, HZL.out]) HBO.out ?_; clear tok2))
    refine bodyPost_ret (results_cell_row Try.results31 _ _ w.heap.size 63 row (0, 0) (.array 16 5) rfl (setRow_heap _ _ _ _ _ _ HM4.out) Try.underlying63 rfl HI.out) rfl ⟨rfl, ?_⟩
    exact below_setRow HW4.out (Nat.le_refl _) _
end Go.Proofs.Ytkpnmagcmpljoaa
