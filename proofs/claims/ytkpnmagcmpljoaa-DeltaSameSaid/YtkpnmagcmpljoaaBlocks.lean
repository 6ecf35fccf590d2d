/- The map of a base's blocks: the walk. -/
import Derived.Test.YtkpnmagcmpljoaaLookUp
namespace Go.Proofs.Ytkpnmagcmpljoaa
open Go.RowKit
set_option linter.unusedVariables false
theorem MapAt.mono {w : World} {b n n' : Nat} {bs : List Int} (h : MapAt w b n bs) (h0 : 0 < n) (hn : n ≤ n') : MapAt w b n' bs := by
  obtain ⟨es, clock, h1, h2, h3, h4, h5⟩ := h
  exact ⟨es, clock, h1, h2, Nat.le_trans h3 hn, h4, fun _ => h5 h0⟩
set_option maxRecDepth 100000 in
set_option maxHeartbeats 8000000 in
theorem blocks_any (a : Option Addr) (m c : Nat) (bs : List Int) (hmc : m ≤ c) (hcm : c ≤ 9223372036854775807) (hm : m ≤ 1000000000) (w : World) (H : Bytes w a m bs) :
    Calls Try.prog 20 #[.slice a m c] w fun e w' => e = .returned (.map (some w.heap.size)) ∧ (∃ n, MapAt w' w.heap.size n bs ∧ (16 ≤ m → 0 < n)) ∧ Below w.heap.size w w' := by
  have hl : bs.length = m := H.1
  have HL := Lib.hid hl
  have HY := Lib.hid H
  clear H hl
  have hmm := @run_makeMap Try.prog
  go_enter Try.func20, Try.ntmps20
  go_wp2_with fail
  clear hmm
  have HM0 := Lib.hid (MapAt.made w bs)
  have HB0 : Hid (Below w.heap.size w (w.alloc (.map #[] 0))) := (Below.refl _ _).alloc (Nat.le_refl _) _
  generalize w.alloc (.map #[] 0) = w0 at *
  go_loopw [4] (fun v wr => ∃ k : Nat, v = .int .i64 (k : Int) ∧ k ≤ m ∧ MapAt wr w.heap.size k bs ∧ Below w.heap.size w wr) (fun v _ => m + 16 - (intOf v).toNat)
  case atStart => exact ⟨0, rfl, Nat.zero_le _, HM0.out, HB0.out⟩
  case round =>
    obtain ⟨k, rfl, hk, hmap, hb⟩ := hrel
    have HM := Lib.hid hmap
    have HB := Lib.hid hb
    clear hmap hb HM0 HB0
    have hks : (k : Int) + 16 ≤ 2000000000 := by omega
    by_cases h1 : k + 16 ≤ m
    · have h1i : decide ((k : Int) + 16 ≤ (m : Int)) = true := by simp; omega
      have h1j : (k : Int) + 16 ≤ (m : Int) := by omega
      have h2i : decide ((k : Int) ≤ 4294967295) = true := by simp; omega
      have h2j : (k : Int) ≤ 4294967295 := by omega
      obtain ⟨kl, hkl⟩ := block_key bs k (by rw [HL.out]; exact h1) HY.out.2.2.1
      have HKL := Lib.hid hkl
      have HRS : Hid ((blockOf bs k).size = 16) := blockOf_size bs k (by rw [HL.out]; exact h1)
      have HRO := Lib.hid (blockOf_one bs k)
      have hblk := blockAt_any a m c bs hmc hcm k h1 wr (HY.out.below HB.out)
      have HST : Hid (∀ W, MapAt W w.heap.size k bs → (blockOf bs k = blockOf bs 0 → k = 0) → ∃ w', (Instr.mapUpdate 49 (.map (some w.heap.size)) (.agg (blockOf bs k)) (.int .i64 (k : Int))).run Try.prog W = .ok () w' ∧ MapAt w' w.heap.size (k + 1) bs ∧ W.grownBy w' (some w.heap.size)) :=
        fun W hW hf => hW.store (by show k < 9223372036854775807; omega) k (by rw [HL.out]; exact h1) (by omega) kl HKL.out (by omega) hf
      have HLK : Hid (∀ W, MapAt W w.heap.size k bs → ((blockOf bs k = blockOf bs 0 → k = 0) ∧ (Instr.lookup 49 (.map (some w.heap.size)) (.agg (blockOf bs k)) true).run Try.prog W = .ok (.tuple #[.int .i64 0, .bool false]) W) ∨ ∃ q : Nat, 0 < k ∧ (Instr.lookup 49 (.map (some w.heap.size)) (.agg (blockOf bs k)) true).run Try.prog W = .ok (.tuple #[.int .i64 (q : Int), .bool true]) W) :=
        fun W hW => by
          rcases hW.look _ kl HKL.out with h | ⟨q, -, -, -, -, h0, h⟩
          · exact .inl h
          · exact .inr ⟨q, h0, h⟩
      clear hkl
      generalize blockOf bs k = row at *
      generalize hb0 : blockOf bs 0 = row0 at *
      clear hb0
      have HI : Hid ((Try.prog.info? 63).map (·.size) = some row.size) := by
        show _ = _; rw [HRS.out]; kernel_rfl
      go_wp2_with fail
      refine hblk.mono ?_
      rintro e w1 ⟨rfl, hb1⟩
      have HN1 : Hid ((w1.alloc (.cells #[.int .u8 0, .int .u8 0, .int .u8 0, .int .u8 0, .int .u8 0, .int .u8 0, .int .u8 0, .int .u8 0, .int .u8 0, .int .u8 0, .int .u8 0, .int .u8 0, .int .u8 0, .int .u8 0, .int .u8 0, .int .u8 0] 63)).heap[w1.heap.size]? = some (.cells #[.int .u8 0, .int .u8 0, .int .u8 0, .int .u8 0, .int .u8 0, .int .u8 0, .int .u8 0, .int .u8 0, .int .u8 0, .int .u8 0, .int .u8 0, .int .u8 0, .int .u8 0, .int .u8 0, .int .u8 0, .int .u8 0] 63 (0, 0))) := heap_alloc_new w1 _
      have HB1 : Hid (Below w.heap.size w w1) := HB.out.trans (hb1.mono HB.out.size)
      have HSZ : Hid (wr.heap.size ≤ w1.heap.size) := hb1.size
      have HMB : Hid (∀ g, g < wr.heap.size → w1.heap[g]? = wr.heap[g]?) := fun g hg => hb1.block g hg
      clear hblk hb1
      have tok : True := trivial
      go_wp2_with (have _t := tok; refine wpList_store_row rfl 63 (.tmp 5) (.tmp 22) rfl w1.heap.size row rfl rfl 63 #[.int .u8 0, .int .u8 0, .int .u8 0, .int .u8 0, .int .u8 0, .int .u8 0, .int .u8 0, .int .u8 0, .int .u8 0, .int .u8 0, .int .u8 0, .int .u8 0, .int .u8 0, .int .u8 0, .int .u8 0, .int .u8 0] HN1.out HI.out (by rw [HRS.out]; rfl) HRO.out ?_; clear tok; refine Hid.out ?_)
      have HN2 : Hid (((w1.alloc (.cells #[.int .u8 0, .int .u8 0, .int .u8 0, .int .u8 0, .int .u8 0, .int .u8 0, .int .u8 0, .int .u8 0, .int .u8 0, .int .u8 0, .int .u8 0, .int .u8 0, .int .u8 0, .int .u8 0, .int .u8 0, .int .u8 0] 63)).setRow w1.heap.size row).heap[w1.heap.size]? = some (.cells row 63 (0, 0))) := setRow_heap _ _ _ _ _ _ HN1.out
      have HBA : Hid (Below w1.heap.size w1 (w1.alloc (.cells #[.int .u8 0, .int .u8 0, .int .u8 0, .int .u8 0, .int .u8 0, .int .u8 0, .int .u8 0, .int .u8 0, .int .u8 0, .int .u8 0, .int .u8 0, .int .u8 0, .int .u8 0, .int .u8 0, .int .u8 0, .int .u8 0] 63))) := (Below.refl _ _).alloc (Nat.le_refl _) _
      have HB2 : Hid (Below w1.heap.size w1 ((w1.alloc (.cells #[.int .u8 0, .int .u8 0, .int .u8 0, .int .u8 0, .int .u8 0, .int .u8 0, .int .u8 0, .int .u8 0, .int .u8 0, .int .u8 0, .int .u8 0, .int .u8 0, .int .u8 0, .int .u8 0, .int .u8 0, .int .u8 0] 63)).setRow w1.heap.size row)) := below_setRow HBA.out (Nat.le_refl _) _
      generalize (w1.alloc (.cells #[.int .u8 0, .int .u8 0, .int .u8 0, .int .u8 0, .int .u8 0, .int .u8 0, .int .u8 0, .int .u8 0, .int .u8 0, .int .u8 0, .int .u8 0, .int .u8 0, .int .u8 0, .int .u8 0, .int .u8 0, .int .u8 0] 63)).setRow w1.heap.size row = w2 at *
      clear HN1 HBA
      have hlt := HM.out.lt
      have HM2 : Hid (MapAt w2 w.heap.size k bs) := HM.out.block ((HB2.out.block _ (Nat.lt_of_lt_of_le hlt HSZ.out)).trans (HMB.out _ hlt))
      have HBZ : Hid (Below w.heap.size w w2) := HB1.out.trans (HB2.out.mono HB1.out.size)
      clear HB2 HMB HB HM hlt
      refine unhid ?_
      generalize w1.heap.size = g1 at *
      rcases HLK.out w2 HM2.out with ⟨hrow, hrun⟩ | ⟨q, hk0, hrun⟩
      · obtain ⟨w3, hst, hm3, hg3⟩ := HST.out w2 HM2.out hrow
        clear hrow
        have HM3 := Lib.hid hm3
        have HB3 : Hid (Below w.heap.size w w3) := HBZ.out.grown hg3 (by have := HBZ.out.size; omega) (fun i hi => by injection hi with hi; omega)
        clear hm3 hg3
        have tok1 : True := trivial
        have tok2 : True := trivial
        go_wp2_with (first
          | (have _t := tok1; refine wpList_load_row rfl 63 _ rfl g1 rfl 63 row (0, 0) (.array 16 5) HN2.out Try.underlying63 rfl HI.out ?_; clear tok1)
          | (have _t := tok2; refine wpList_load_row rfl 63 _ rfl g1 rfl 63 row (0, 0) (.array 16 5) HN2.out Try.underlying63 rfl HI.out ?_; clear tok2))
        exact ⟨⟨k + 16, by go_num, h1, HM3.out.mono (by omega) (by omega), HB3.out⟩, by simp [intOf]; omega⟩
      · have tok1 : True := trivial
        go_wp2_with (have _t := tok1; refine wpList_load_row rfl 63 _ rfl g1 rfl 63 row (0, 0) (.array 16 5) HN2.out Try.underlying63 rfl HI.out ?_; clear tok1)
        exact ⟨⟨k + 16, by go_num, h1, HM2.out.mono hk0 (by omega), HBZ.out⟩, by simp [intOf]; omega⟩
    · have h1i : decide ((k : Int) + 16 ≤ (m : Int)) = false := by simp; omega
      have h1j : ¬ (k : Int) + 16 ≤ (m : Int) := by omega
      go_wp2_with fail
      go_ret
      exact ⟨rfl, ⟨k, HM.out, fun h => by omega⟩, HB.out⟩
end Go.Proofs.Ytkpnmagcmpljoaa
