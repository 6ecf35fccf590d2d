/- One block absorbed: the walk of the closure. -/
import Derived.Test.YtlnfgebonmfokaaDoorMix
import Derived.Test.YtlnfgebonmfokaaDoorWords
import Derived.Deep.RegionWith
import Derived.RegionTactic
import Derived.Deep.Cut
namespace Go.Proofs.YtlnfgebonmfokaaDoor
open Go.RowKit Plain
set_option linter.unusedVariables false
def cells5V (s : Five) : Array Value := #[.int .u32 s.a.toNat, .int .u32 s.b.toNat, .int .u32 s.c.toNat, .int .u32 s.d.toNat, .int .u32 s.e.toNat]
theorem range_64 {w : World} {b : Nat} {bs : List Int} {t : TypeId} (h : w.heap[b]? = some (.cells (V8 bs) t (0, 0))) : w.rangeAt b 0 (bs.map (Value.int .u8)) := fun j v hv => by
  rw [cell_of_row w b (0 + j) _ t (0, 0) h, Nat.zero_add]
  unfold V8
  simpa using hv
set_option maxRecDepth 100000 in
set_option maxHeartbeats 8000000 in
theorem work_any (b1 b2 b3 : Nat) (s r : Five) (bs : List Int) (ws : List (BitVec 32)) (hws : wordsTo bs 80 = ws) (hr : mix s ws = r) (f : Value) (w : World) (hl : bs.length = 64) (hb : ∀ j : Nat, 0 ≤ bs[j]?.getD 0 ∧ bs[j]?.getD 0 ≤ 255)
    (h1 : w.heap[b1]? = some (.cells (cells5V s) 49 (0, 0))) (h2 : w.heap[b2]? = some (.cells (V8 bs) 50 (0, 0))) (h3 : w.heap[b3]? = some (.cells #[f] 3 (0, 0))) (h13 : b1 ≠ b3) (h12 : b1 ≠ b2) :
    Calls Tryd.prog 25 #[.pointer (some ⟨b1, 0, none⟩), .pointer (some ⟨b2, 0, none⟩), .pointer (some ⟨b3, 0, none⟩)] w fun e w' =>
      e = .returned (.tuple #[]) ∧ ∃ W, Below w.heap.size w W ∧ w' = (W.setRow b1 (cells5V r)).setCell ⟨b3, 0, none⟩ (.int .i64 0) := by
  have HB : Hid (∀ j : Nat, 0 ≤ bs[j]?.getD 0 ∧ bs[j]?.getD 0 ≤ 255) := hb
  have HLEN : Hid (bs.length = 64) := hl
  have L1 : b1 < w.heap.size := (Array.getElem?_eq_some_iff.1 h1).1
  have L2 : b2 < w.heap.size := (Array.getElem?_eq_some_iff.1 h2).1
  have L3 : b3 < w.heap.size := (Array.getElem?_eq_some_iff.1 h3).1
  have HK : Hid (∀ w' : World, Below w.heap.size w w' → w'.heap[b1]? = some (.cells (cells5V s) 49 (0, 0)) ∧ w'.heap[b2]? = some (.cells (V8 bs) 50 (0, 0)) ∧ w'.heap[b3]? = some (.cells #[f] 3 (0, 0))) :=
    fun w' hw => ⟨(hw.block b1 L1).trans h1, (hw.block b2 L2).trans h2, (hw.block b3 L3).trans h3⟩
  have H5 : Hid ((Tryd.prog.info? 49).map (·.size) = some (cells5V s).size) := by
    show (Tryd.prog.info? 49).map (·.size) = some 5
    kernel_rfl
  have H64 : Hid ((Tryd.prog.info? 50).map (·.size) = some (V8 bs).size) := by
    show (Tryd.prog.info? 50).map (·.size) = some (V8 bs).size
    rw [V8_size, hl]; kernel_rfl
  have HWS : Hid (wordsTo bs 80 = ws) := hws
  have HR : Hid (mix s ws = r) := hr
  have HWL : Hid (ws.length = 80) := by show ws.length = 80; rw [← hws, wordsTo_length]
  have HON : Hid ((cells5V r).all (·.oneCell') = true) := by show (cells5V r).all (·.oneCell') = true; simp [cells5V, Value.oneCell']
  clear hl hb h1 h2 h3 hws hr
  go_enter Tryd.func25, Tryd.ntmps25
  go_wp2_with fail
  refine wp_region_any (by kernel_rfl) ?_
  refine wpAny_ready (rs := [0, 1]) (by kernel_rfl) (by simp) ?_
  refine AllReady.cons rfl (fun K hK => ?_) (AllReady.cons rfl (fun K hK => ?_) AllReady.nil)
  · rw [if_pos (by rfl)]
    refine wp_load_row 49 _ rfl b1 rfl 49 (cells5V s) (0, 0) (.array 5 48) (HK.out _ (Below.refl _ _).drew).1 Tryd.underlying49 rfl H5.out ?_
    refine hK _ _ ?_
    clear hK K
    refine wpAny_ready (rs := [1]) (by kernel_rfl) (by simp) ?_
    refine AllReady.cons rfl (fun K hK => ?_) AllReady.nil
    rw [if_pos (by rfl)]
    refine wp_load_row 50 _ rfl b2 rfl 50 (V8 bs) (0, 0) (.array 64 5) (HK.out _ (Below.refl _ _).drew).2.1 Tryd.underlying50 rfl H64.out ?_
    refine hK _ _ ?_
    clear hK K
    refine wpAny_ready (rs := [2]) (by kernel_rfl) (by simp) ?_
    refine AllReady.cons rfl (fun K hK => ?_) AllReady.nil
    rw [if_pos (by rfl)]
    go_simp
    go_wp2_with (go_at_call 27; refine (words_any bs _ HLEN.out HB.out).mono ?_; rw [HWS.out]; rintro e wk ⟨rfl, hbk⟩; have hbj := (Below.refl w.heap.size w).drew.trans hbk; clear hbk)
    refine wpAny_ready (rs := [3]) (by kernel_rfl) (by simp) ?_
    refine AllReady.cons rfl (fun K hK => ?_) AllReady.nil
    rw [if_pos (by rfl)]
    go_simp
    go_wp2_with (go_at_call 26; refine (mixed_any s ws _ HWL.out).mono ?_; rw [HR.out]; rintro e wk2 ⟨rfl, hbk2⟩; have hbj2 := hbj.trans (hbk2.mono hbj.size); clear hbk2 hbj)
    refine wpAny_ready (rs := [4]) (by kernel_rfl) (by simp) ?_
    refine AllReady.cons rfl (fun K hK => ?_) AllReady.nil
    rw [if_pos (by rfl)]
    refine wp_store_row 49 _ _ rfl b1 (cells5V r) rfl rfl 49 (cells5V s) (HK.out _ hbj2).1 H5.out rfl HON.out ?_
    refine hK _ _ ?_
    clear hK K
    refine wpAny_done (by kernel_rfl) ?_ _
    have hq1 := setRow_other wk2 b1 b3 (cells5V r) (fun e => h13 e.symm)
    have hq : (wk2.setRow b1 (cells5V r)).heap[b3]? = some (.cells #[f] 3 (0, 0)) := hq1.trans (HK.out _ hbj2).2.2
    have hq3 := cell_of_row _ b3 0 _ _ _ hq
    have hq4 := free5 hq 0
    clear hq1
    go_wp2_with fail
    go_end0
    exact ⟨rfl, wk2, hbj2, rfl⟩
  · rw [if_pos (by rfl)]
    refine wp_load_row 50 _ rfl b2 rfl 50 (V8 bs) (0, 0) (.array 64 5) (HK.out _ (Below.refl _ _).drew).2.1 Tryd.underlying50 rfl H64.out ?_
    refine hK _ _ ?_
    clear hK K
    refine wpAny_ready (rs := [0, 2]) (by kernel_rfl) (by simp) ?_
    refine AllReady.cons rfl (fun K hK => ?_) (AllReady.cons rfl (fun K hK => ?_) AllReady.nil)
    · rw [if_pos (by rfl)]
      refine wp_load_row 49 _ rfl b1 rfl 49 (cells5V s) (0, 0) (.array 5 48) (HK.out _ (Below.refl _ _).drew).1 Tryd.underlying49 rfl H5.out ?_
      refine hK _ _ ?_
      clear hK K
      refine wpAny_ready (rs := [2]) (by kernel_rfl) (by simp) ?_
      refine AllReady.cons rfl (fun K hK => ?_) AllReady.nil
      rw [if_pos (by rfl)]
      go_simp
      go_wp2_with (go_at_call 27; refine (words_any bs _ HLEN.out HB.out).mono ?_; rw [HWS.out]; rintro e wk ⟨rfl, hbk⟩; have hbj := (Below.refl w.heap.size w).drew.trans hbk; clear hbk)
      refine wpAny_ready (rs := [3]) (by kernel_rfl) (by simp) ?_
      refine AllReady.cons rfl (fun K hK => ?_) AllReady.nil
      rw [if_pos (by rfl)]
      go_simp
      go_wp2_with (go_at_call 26; refine (mixed_any s ws _ HWL.out).mono ?_; rw [HR.out]; rintro e wk2 ⟨rfl, hbk2⟩; have hbj2 := hbj.trans (hbk2.mono hbj.size); clear hbk2 hbj)
      refine wpAny_ready (rs := [4]) (by kernel_rfl) (by simp) ?_
      refine AllReady.cons rfl (fun K hK => ?_) AllReady.nil
      rw [if_pos (by rfl)]
      refine wp_store_row 49 _ _ rfl b1 (cells5V r) rfl rfl 49 (cells5V s) (HK.out _ hbj2).1 H5.out rfl HON.out ?_
      refine hK _ _ ?_
      clear hK K
      refine wpAny_done (by kernel_rfl) ?_ _
      have hq1 := setRow_other wk2 b1 b3 (cells5V r) (fun e => h13 e.symm)
      have hq : (wk2.setRow b1 (cells5V r)).heap[b3]? = some (.cells #[f] 3 (0, 0)) := hq1.trans (HK.out _ hbj2).2.2
      have hq3 := cell_of_row _ b3 0 _ _ _ hq
      have hq4 := free5 hq 0
      clear hq1
      go_wp2_with fail
      go_end0
      exact ⟨rfl, wk2, hbj2, rfl⟩
    · rw [if_pos (by rfl)]
      go_simp
      go_wp2_with (go_at_call 27; refine (words_any bs _ HLEN.out HB.out).mono ?_; rw [HWS.out]; rintro e wk ⟨rfl, hbk⟩; have hbj := (Below.refl w.heap.size w).drew.trans hbk; clear hbk)
      refine wpAny_ready (rs := [0]) (by kernel_rfl) (by simp) ?_
      refine AllReady.cons rfl (fun K hK => ?_) AllReady.nil
      rw [if_pos (by rfl)]
      refine wp_load_row 49 _ rfl b1 rfl 49 (cells5V s) (0, 0) (.array 5 48) (HK.out _ hbj).1 Tryd.underlying49 rfl H5.out ?_
      refine hK _ _ ?_
      clear hK K
      refine wpAny_ready (rs := [3]) (by kernel_rfl) (by simp) ?_
      refine AllReady.cons rfl (fun K hK => ?_) AllReady.nil
      rw [if_pos (by rfl)]
      go_simp
      go_wp2_with (go_at_call 26; refine (mixed_any s ws _ HWL.out).mono ?_; rw [HR.out]; rintro e wk2 ⟨rfl, hbk2⟩; have hbj2 := hbj.trans (hbk2.mono hbj.size); clear hbk2 hbj)
      refine wpAny_ready (rs := [4]) (by kernel_rfl) (by simp) ?_
      refine AllReady.cons rfl (fun K hK => ?_) AllReady.nil
      rw [if_pos (by rfl)]
      refine wp_store_row 49 _ _ rfl b1 (cells5V r) rfl rfl 49 (cells5V s) (HK.out _ hbj2).1 H5.out rfl HON.out ?_
      refine hK _ _ ?_
      clear hK K
      refine wpAny_done (by kernel_rfl) ?_ _
      have hq1 := setRow_other wk2 b1 b3 (cells5V r) (fun e => h13 e.symm)
      have hq : (wk2.setRow b1 (cells5V r)).heap[b3]? = some (.cells #[f] 3 (0, 0)) := hq1.trans (HK.out _ hbj2).2.2
      have hq3 := cell_of_row _ b3 0 _ _ _ hq
      have hq4 := free5 hq 0
      clear hq1
      go_wp2_with fail
      go_end0
      exact ⟨rfl, wk2, hbj2, rfl⟩
end Go.Proofs.YtlnfgebonmfokaaDoor
