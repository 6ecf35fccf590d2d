/- What stands behind so many bytes: the walk. -/
import Derived.Test.YtglgchjkonjpiaaGreatDoorShaA
import Derived.Deep.RegionWith
import Derived.RegionTactic
import Derived.Deep.Cut
import Derived.Test.YtglgchjkonjpiaaGreatDoorBase
/-! What stands behind so many bytes: the walk. -/
namespace Go.Proofs.YtglgchjkonjpiaaGreatDoor
open Go.RowKit Plain
set_option linter.unusedVariables false
def eb (n i : Nat) : Int := ((n * 8 % 18446744073709551616 / 2 ^ (56 - 8 * i) % 256 : Nat) : Int)
def endTo (n m k : Nat) : List Int := 128 :: (List.replicate m 0 ++ (List.range 8).map fun i => if i < k then eb n i else 0)
/-- What stands behind n bytes. -/
def endOf (n : Nat) : List Int := endTo n ((119 - n % 64) % 64) 8
theorem endTo_length (n m k : Nat) : (endTo n m k).length = m + 9 := by simp [endTo]
theorem endTo_set (n m k : Nat) (hk : k < 8) (x : Int) (hx : x = eb n k) : (V8 (endTo n m k)).setIfInBounds (1 + m + k) (.int .u8 x) = V8 (endTo n m (k + 1)) := by
  subst hx
  apply Array.toList_inj.1
  unfold V8 endTo
  rw [Array.toList_setIfInBounds]
  simp only [List.map_cons, List.map_append]
  rw [show 1 + m + k = (m + k) + 1 by omega, List.set_cons_succ, List.set_append_right _ _ (by simp)]
  simp only [List.length_map, List.length_replicate, Nat.add_sub_cancel_left]
  congr 2
  apply List.ext_getElem
  · simp
  · intro j h1 h2
    have hj : j < 8 := by simpa using h2
    rw [List.getElem_set]
    simp only [List.getElem_map, List.getElem_range]
    by_cases hjk : k = j
    · subst hjk; simp
    · rw [if_neg hjk]
      by_cases hlt : j < k
      · rw [if_pos hlt, if_pos (by omega)]
      · rw [if_neg hlt, if_neg (by omega)]
theorem endTo_zero (n m : Nat) : (Zs (m + 9)).setIfInBounds 0 (.int .u8 128) = V8 (endTo n m 0) := by
  apply Array.toList_inj.1
  have h8 : ((List.range 8).map fun i => if i < 0 then eb n i else 0) = List.replicate 8 (0 : Int) := by simp; rfl
  unfold V8 endTo Zs
  rw [h8, List.replicate_append_replicate, Array.toList_setIfInBounds, show m + 9 = (m + 8) + 1 from rfl, List.replicate_succ, List.map_cons, List.map_cons]
  simp only [List.set_cons_zero]
theorem cases8 (k : Nat) (h : k < 8) : k = 0 ∨ k = 1 ∨ k = 2 ∨ k = 3 ∨ k = 4 ∨ k = 5 ∨ k = 6 ∨ k = 7 := by omega
set_option maxRecDepth 100000 in
set_option maxHeartbeats 8000000 in
theorem ending_any (n : Nat) (w : World) (hn : n < 18446744073709551616) :
    Calls Tryz.prog 62 #[.int .u64 (n : Int)] w fun r w' =>
      ∃ B, r = .returned (.slice (some ⟨B, 0, none⟩) (endOf n).length (endOf n).length) ∧ w.heap.size ≤ B ∧ w'.heap[B]? = some (.cells (V8 (endOf n)) 5 (0, 0)) ∧ Below w.heap.size w w' := by
  obtain ⟨m, hm⟩ : ∃ m, (119 - n % 64) % 64 = m := ⟨_, rfl⟩
  have hN : Hid (endOf n = endTo n m 8 ∧ n < 18446744073709551616) := ⟨by unfold endOf; rw [hm], hn⟩
  have n0 : (0 : Int) ≤ n := by omega
  have n1 : (n : Int) < 18446744073709551616 := by omega
  have hm64 : m < 64 := by omega
  have hq : (119 - (n : Int)) % 64 = m := by omega
  have hq' : (119 - (n : Int) % 64) % 64 = m := by omega
  obtain ⟨x, hx⟩ : ∃ x, n * 8 % 18446744073709551616 = x := ⟨_, rfl⟩
  have hx0 : (x : Int) < 18446744073709551616 := by omega
  have hw' : (n : Int) * 8 % 18446744073709551616 = x := by omega
  have hw : IntKind.u64.wrap ((n : Int) * 8) = x := by rw [IntKind.wrap_u64]; exact hw'
  have HX : Hid (n * 8 % 18446744073709551616 = x) := hx
  clear hx
  have hmk := make_zs (m + 9) (by omega)
  rw [show ((m + 9 : Nat) : Int) = 1 + (m : Int) + 8 by omega] at hmk
  have z0 : (w.alloc (.cells (Zs (m + 9)) 5)).cell? ⟨w.heap.size, 0, none⟩ = some (.int .u8 0) := by
    rw [cell_of_row _ _ _ _ _ (0, 0) (heap_alloc_new _ _)]; simp [Zs]
  have zf : (w.alloc (.cells (Zs (m + 9)) 5)).frozen? ⟨w.heap.size, 0, none⟩ = false := frozen_of_row _ _ _ _ _ (heap_alloc_new _ _)
  have hm0 : (m : Int) < 64 := by omega
  have hm1 : (0 : Int) < 1 + (m : Int) + 8 := by omega
  clear hn hm
  go_enter Tryz.func62, Tryz.ntmps62
  go_wp2_with fail
  have hz := endTo_zero n m
  have hh : (w.alloc (.cells ((Zs (m + 9)).setIfInBounds 0 (.int .u8 128)) 5)).heap[w.heap.size]? = some (.cells (V8 (endTo n m 0)) 5 (0, 0)) := by
    rw [heap_alloc_new, hz]
  have hbel : Below w.heap.size w (w.alloc (.cells ((Zs (m + 9)).setIfInBounds 0 (.int .u8 128)) 5)) := (Below.refl _ _).alloc (Nat.le_refl _) _
  clear hz z0 zf hmk
  generalize (w.alloc (.cells ((Zs (m + 9)).setIfInBounds 0 (.int .u8 128)) 5)) = w0 at *
  have H0 : Hid (w0.heap[w.heap.size]? = some (.cells (V8 (endTo n m 0)) 5 (0, 0))) := hh
  clear hh
  go_loopw [17] (fun i wr => ∃ k : Nat, k ≤ 8 ∧ i = .int .i64 k ∧ wr.heap[w.heap.size]? = some (.cells (V8 (endTo n m k)) 5 (0, 0)) ∧ Below w.heap.size w wr) (fun i _ => 8 - (intOf i).toNat)
  case atStart => exact ⟨0, by omega, rfl, H0.out, hbel⟩
  case round =>
    clear hbel H0
    obtain ⟨k, hk, rfl, h0, hbel⟩ := hrel
    have G0 : Hid (wr.heap[w.heap.size]? = some (.cells (V8 (endTo n m k)) 5 (0, 0))) := h0
    clear h0
    by_cases h8 : k < 8
    · obtain ⟨ov, ho⟩ : ∃ ov, wr.cell? ⟨w.heap.size, 1 + m + k, none⟩ = some ov := ⟨_, by rw [cell_of_row wr _ _ _ _ _ G0.out, Array.getElem?_eq_getElem (by rw [V8_size, endTo_length]; omega)]⟩
      have fo := frozen_of_row wr (w.heap.size) (1 + m + k) (V8 (endTo n m k)) 5 G0.out
      have HS : Hid (∀ x, x = eb n k → (V8 (endTo n m k)).setIfInBounds (1 + m + k) (.int .u8 x) = V8 (endTo n m (k + 1))) := fun x hx => endTo_set n m k h8 x hx
      have HK : Hid (k < 8) := h8
      clear hk
      have hix : (Instr.indexAt 22 (.slice (some ⟨w.heap.size, 0, none⟩) (m + 9) (m + 9)) (.int .i64 (1 + (m : Int) + (k : Int)))).run Tryz.prog wr = .ok (.pointer (some ⟨w.heap.size, 1 + m + k, none⟩)) wr := by
        have hsz : ∀ W : World, (sizeOf (Tryz.prog.elem 22)).run Tryz.prog W = .ok 1 W := fun W => by kernel_rfl
        rw [run_indexAt_slice wr 22 _ _ _ _ _ (by kernel_rfl), if_pos (by omega), hsz]
        simp only [Result.andThen_ok, Nat.mul_one]
        rw [show (1 + (m : Int) + (k : Int)).toNat = 1 + m + k by omega]
        unfold Addr.add
        simp
      have f56 : 0 ≤ 56 - 8 * (k : Int) := by omega
      have f8 : (k : Int) < 8 := by omega
      clear h8
      go_wp2_with fail
      refine ⟨⟨k + 1, HK.out, by go_num, ?_, hbel.setCell (Nat.le_refl _) _⟩, ?_⟩
      · rw [heap_setCell_same _ _ _ _ _ _ G0.out, HS.out _ (by unfold eb; rw [HX.out]; push_cast; rfl)]
      · have := HK.out; simp [intOf]; omega
    · obtain rfl : k = 8 := by omega
      go_wp2_with fail
      have hL : (endOf n).length = m + 9 := by rw [hN.out.1, endTo_length]
      go_ret
      refine ⟨w.heap.size, by rw [hL]; rfl, Nat.le_refl _, by rw [hN.out.1]; exact G0.out, hbel⟩
end Go.Proofs.YtglgchjkonjpiaaGreatDoor
/-! One block absorbed: the walk of the closure. -/
namespace Go.Proofs.YtglgchjkonjpiaaGreatDoor
open Go.RowKit Plain
set_option linter.unusedVariables false
def cells5V (s : Five) : Array Value := #[.int .u32 s.a.toNat, .int .u32 s.b.toNat, .int .u32 s.c.toNat, .int .u32 s.d.toNat, .int .u32 s.e.toNat]
theorem range_64 {w : World} {b : Nat} {bs : List Int} {t : TypeId} (h : w.heap[b]? = some (.cells (V8 bs) t (0, 0))) : w.rangeAt b 0 (bs.map (Value.int .u8)) := fun j v hv => by
  rw [cell_of_row w b (0 + j) _ t (0, 0) h, Nat.zero_add]
  unfold V8
  simpa using hv
set_option maxRecDepth 100000 in
set_option maxHeartbeats 8000000 in
theorem work_any (b1 b2 b3 : Nat) (s r : Five) (bs : List Int) (ws : List (BitVec 32)) (hws : wordsTo bs 80 = ws) (hr : mix s ws = r) (f : Value) (w : World) (hl : bs.length = 64) (hb : ∀ j : Nat, 0 ≤ bs[j]?.getD 0 ∧ bs[j]?.getD 0 ≤ 255)
    (h1 : w.heap[b1]? = some (.cells (cells5V s) 92 (0, 0))) (h2 : w.heap[b2]? = some (.cells (V8 bs) 93 (0, 0))) (h3 : w.heap[b3]? = some (.cells #[f] 3 (0, 0))) (h13 : b1 ≠ b3) (h12 : b1 ≠ b2) :
    Calls Tryz.prog 58 #[.pointer (some ⟨b1, 0, none⟩), .pointer (some ⟨b2, 0, none⟩), .pointer (some ⟨b3, 0, none⟩)] w fun e w' =>
      e = .returned (.tuple #[]) ∧ ∃ W, Below w.heap.size w W ∧ w' = (W.setRow b1 (cells5V r)).setCell ⟨b3, 0, none⟩ (.int .i64 0) := by
  have HB : Hid (∀ j : Nat, 0 ≤ bs[j]?.getD 0 ∧ bs[j]?.getD 0 ≤ 255) := hb
  have HLEN : Hid (bs.length = 64) := hl
  have L1 : b1 < w.heap.size := (Array.getElem?_eq_some_iff.1 h1).1
  have L2 : b2 < w.heap.size := (Array.getElem?_eq_some_iff.1 h2).1
  have L3 : b3 < w.heap.size := (Array.getElem?_eq_some_iff.1 h3).1
  have HK : Hid (∀ w' : World, Below w.heap.size w w' → w'.heap[b1]? = some (.cells (cells5V s) 92 (0, 0)) ∧ w'.heap[b2]? = some (.cells (V8 bs) 93 (0, 0)) ∧ w'.heap[b3]? = some (.cells #[f] 3 (0, 0))) :=
    fun w' hw => ⟨(hw.block b1 L1).trans h1, (hw.block b2 L2).trans h2, (hw.block b3 L3).trans h3⟩
  have H5 : Hid ((Tryz.prog.info? 92).map (·.size) = some (cells5V s).size) := by
    show (Tryz.prog.info? 92).map (·.size) = some 5
    kernel_rfl
  have H64 : Hid ((Tryz.prog.info? 93).map (·.size) = some (V8 bs).size) := by
    show (Tryz.prog.info? 93).map (·.size) = some (V8 bs).size
    rw [V8_size, hl]; kernel_rfl
  have HWS : Hid (wordsTo bs 80 = ws) := hws
  have HR : Hid (mix s ws = r) := hr
  have HWL : Hid (ws.length = 80) := by show ws.length = 80; rw [← hws, wordsTo_length]
  have HON : Hid ((cells5V r).all (·.oneCell') = true) := by show (cells5V r).all (·.oneCell') = true; simp [cells5V, Value.oneCell']
  clear hl hb h1 h2 h3 hws hr
  go_enter Tryz.func58, Tryz.ntmps58
  go_wp2_with fail
  refine wp_region_any (by kernel_rfl) ?_
  refine wpAny_ready (rs := [0, 1]) (by kernel_rfl) (by simp) ?_
  refine AllReady.cons rfl (fun K hK => ?_) (AllReady.cons rfl (fun K hK => ?_) AllReady.nil)
  · rw [if_pos (by rfl)]
    refine wp_load_row 92 _ rfl b1 rfl 92 (cells5V s) (0, 0) (.array 5 85) (HK.out _ (Below.refl _ _).drew).1 Tryz.underlying92 rfl H5.out ?_
    refine hK _ _ ?_
    clear hK K
    refine wpAny_ready (rs := [1]) (by kernel_rfl) (by simp) ?_
    refine AllReady.cons rfl (fun K hK => ?_) AllReady.nil
    rw [if_pos (by rfl)]
    refine wp_load_row 93 _ rfl b2 rfl 93 (V8 bs) (0, 0) (.array 64 5) (HK.out _ (Below.refl _ _).drew).2.1 Tryz.underlying93 rfl H64.out ?_
    refine hK _ _ ?_
    clear hK K
    refine wpAny_ready (rs := [2]) (by kernel_rfl) (by simp) ?_
    refine AllReady.cons rfl (fun K hK => ?_) AllReady.nil
    rw [if_pos (by rfl)]
    go_simp
    go_wp2_with (go_at_call 60; refine (words_any bs _ HLEN.out HB.out).mono ?_; rw [HWS.out]; rintro e wk ⟨rfl, hbk⟩; have hbj := (Below.refl w.heap.size w).drew.trans hbk; clear hbk)
    refine wpAny_ready (rs := [3]) (by kernel_rfl) (by simp) ?_
    refine AllReady.cons rfl (fun K hK => ?_) AllReady.nil
    rw [if_pos (by rfl)]
    go_simp
    go_wp2_with (go_at_call 59; refine (mixed_any s ws _ HWL.out).mono ?_; rw [HR.out]; rintro e wk2 ⟨rfl, hbk2⟩; have hbj2 := hbj.trans (hbk2.mono hbj.size); clear hbk2 hbj)
    refine wpAny_ready (rs := [4]) (by kernel_rfl) (by simp) ?_
    refine AllReady.cons rfl (fun K hK => ?_) AllReady.nil
    rw [if_pos (by rfl)]
    refine wp_store_row 92 _ _ rfl b1 (cells5V r) rfl rfl 92 (cells5V s) (HK.out _ hbj2).1 H5.out rfl HON.out ?_
    refine hK _ _ ?_
    clear hK K
    refine wpAny_done (by kernel_rfl) ?_ _
    have hq1 := setRow_other wk2 b1 b3 (cells5V r) (fun e => h13 e.symm)
    have hq : (wk2.setRow b1 (cells5V r)).heap[b3]? = some (.cells #[f] 3 (0, 0)) := hq1.trans (HK.out _ hbj2).2.2
    have hq3 := cell_of_row _ b3 0 _ _ _ hq
    have hq4 := free5 hq 0
    clear hq1
    go_wp2_with fail
    go_end0
    exact ⟨rfl, wk2, hbj2, rfl⟩
  · rw [if_pos (by rfl)]
    refine wp_load_row 93 _ rfl b2 rfl 93 (V8 bs) (0, 0) (.array 64 5) (HK.out _ (Below.refl _ _).drew).2.1 Tryz.underlying93 rfl H64.out ?_
    refine hK _ _ ?_
    clear hK K
    refine wpAny_ready (rs := [0, 2]) (by kernel_rfl) (by simp) ?_
    refine AllReady.cons rfl (fun K hK => ?_) (AllReady.cons rfl (fun K hK => ?_) AllReady.nil)
    · rw [if_pos (by rfl)]
      refine wp_load_row 92 _ rfl b1 rfl 92 (cells5V s) (0, 0) (.array 5 85) (HK.out _ (Below.refl _ _).drew).1 Tryz.underlying92 rfl H5.out ?_
      refine hK _ _ ?_
      clear hK K
      refine wpAny_ready (rs := [2]) (by kernel_rfl) (by simp) ?_
      refine AllReady.cons rfl (fun K hK => ?_) AllReady.nil
      rw [if_pos (by rfl)]
      go_simp
      go_wp2_with (go_at_call 60; refine (words_any bs _ HLEN.out HB.out).mono ?_; rw [HWS.out]; rintro e wk ⟨rfl, hbk⟩; have hbj := (Below.refl w.heap.size w).drew.trans hbk; clear hbk)
      refine wpAny_ready (rs := [3]) (by kernel_rfl) (by simp) ?_
      refine AllReady.cons rfl (fun K hK => ?_) AllReady.nil
      rw [if_pos (by rfl)]
      go_simp
      go_wp2_with (go_at_call 59; refine (mixed_any s ws _ HWL.out).mono ?_; rw [HR.out]; rintro e wk2 ⟨rfl, hbk2⟩; have hbj2 := hbj.trans (hbk2.mono hbj.size); clear hbk2 hbj)
      refine wpAny_ready (rs := [4]) (by kernel_rfl) (by simp) ?_
      refine AllReady.cons rfl (fun K hK => ?_) AllReady.nil
      rw [if_pos (by rfl)]
      refine wp_store_row 92 _ _ rfl b1 (cells5V r) rfl rfl 92 (cells5V s) (HK.out _ hbj2).1 H5.out rfl HON.out ?_
      refine hK _ _ ?_
      clear hK K
      refine wpAny_done (by kernel_rfl) ?_ _
      have hq1 := setRow_other wk2 b1 b3 (cells5V r) (fun e => h13 e.symm)
      have hq : (wk2.setRow b1 (cells5V r)).heap[b3]? = some (.cells #[f] 3 (0, 0)) := hq1.trans (HK.out _ hbj2).2.2
      have hq3 := cell_of_row _ b3 0 _ _ _ hq
      have hq4 := free5 hq 0
      clear hq1
      go_wp2_with fail
      go_end0
      exact ⟨rfl, wk2, hbj2, rfl⟩
    · rw [if_pos (by rfl)]
      go_simp
      go_wp2_with (go_at_call 60; refine (words_any bs _ HLEN.out HB.out).mono ?_; rw [HWS.out]; rintro e wk ⟨rfl, hbk⟩; have hbj := (Below.refl w.heap.size w).drew.trans hbk; clear hbk)
      refine wpAny_ready (rs := [0]) (by kernel_rfl) (by simp) ?_
      refine AllReady.cons rfl (fun K hK => ?_) AllReady.nil
      rw [if_pos (by rfl)]
      refine wp_load_row 92 _ rfl b1 rfl 92 (cells5V s) (0, 0) (.array 5 85) (HK.out _ hbj).1 Tryz.underlying92 rfl H5.out ?_
      refine hK _ _ ?_
      clear hK K
      refine wpAny_ready (rs := [3]) (by kernel_rfl) (by simp) ?_
      refine AllReady.cons rfl (fun K hK => ?_) AllReady.nil
      rw [if_pos (by rfl)]
      go_simp
      go_wp2_with (go_at_call 59; refine (mixed_any s ws _ HWL.out).mono ?_; rw [HR.out]; rintro e wk2 ⟨rfl, hbk2⟩; have hbj2 := hbj.trans (hbk2.mono hbj.size); clear hbk2 hbj)
      refine wpAny_ready (rs := [4]) (by kernel_rfl) (by simp) ?_
      refine AllReady.cons rfl (fun K hK => ?_) AllReady.nil
      rw [if_pos (by rfl)]
      refine wp_store_row 92 _ _ rfl b1 (cells5V r) rfl rfl 92 (cells5V s) (HK.out _ hbj2).1 H5.out rfl HON.out ?_
      refine hK _ _ ?_
      clear hK K
      refine wpAny_done (by kernel_rfl) ?_ _
      have hq1 := setRow_other wk2 b1 b3 (cells5V r) (fun e => h13 e.symm)
      have hq : (wk2.setRow b1 (cells5V r)).heap[b3]? = some (.cells #[f] 3 (0, 0)) := hq1.trans (HK.out _ hbj2).2.2
      have hq3 := cell_of_row _ b3 0 _ _ _ hq
      have hq4 := free5 hq 0
      clear hq1
      go_wp2_with fail
      go_end0
      exact ⟨rfl, wk2, hbj2, rfl⟩
end Go.Proofs.YtglgchjkonjpiaaGreatDoor
/-! Absorbing bytes, piece by piece; the closure's state in memory. -/
namespace Go.Proofs.YtglgchjkonjpiaaGreatDoor
open Go.RowKit Plain
set_option linter.unusedVariables false
theorem absorb_lt (xs : List Int) : ∀ (s : State), s.buf.length + xs.length < 64 → absorb s xs = { h := s.h, buf := s.buf ++ xs } := by
  induction xs with
  | nil => intro s _; simp [absorb]
  | cons x xs ih =>
    intro s h
    simp only [List.length_cons] at h
    have e : Plain.step s x = { h := s.h, buf := s.buf ++ [x] } := by unfold Plain.step; rw [if_neg (by omega)]
    show absorb (Plain.step s x) xs = _
    rw [e, ih _ (by simp; omega)]
    simp
theorem absorb_full (xs : List Int) (s : State) (h : s.buf.length + xs.length = 64) (hlt : s.buf.length < 64) : absorb s xs = { h := compress s.h (s.buf ++ xs), buf := [] } := by
  obtain ⟨ys, x, rfl⟩ : ∃ ys x, xs = ys ++ [x] := by
    rcases List.eq_nil_or_concat xs with rfl | ⟨ys, x, rfl⟩
    · simp at h; omega
    · exact ⟨ys, x, by simp⟩
  simp only [List.length_append, List.length_singleton] at h
  rw [absorb_append, absorb_lt ys s (by omega)]
  show Plain.step _ x = _
  unfold Plain.step
  rw [if_pos (by simp; omega)]
  simp
/-- The work closure's value. -/
def workV (B : Nat) : Value := .func (.func 58) #[] #[.pointer (some ⟨B + 1, 0, none⟩), .pointer (some ⟨B + 2, 0, none⟩), .pointer (some ⟨B + 3, 0, none⟩)]
structure St (w : World) (B : Nat) (s : State) (z : Int) : Prop where
  h : w.heap[B + 1]? = some (.cells (cells5V s.h) 92 (0, 0))
  blk : ∃ bs : List Int, bs.length = 64 ∧ (∀ j : Nat, 0 ≤ bs[j]?.getD 0 ∧ bs[j]?.getD 0 ≤ 255) ∧ bs.take s.buf.length = s.buf ∧ w.heap[B + 2]? = some (.cells (V8 bs) 93 (0, 0))
  fl : w.heap[B + 3]? = some (.cells #[.int .i64 (s.buf.length : Int)] 3 (0, 0))
  sz : w.heap[B + 4]? = some (.cells #[.int .u64 z] 39 (0, 0))
  wk : w.heap[B + 5]? = some (.cells #[workV B] 1 (0, 0))
  lt : s.buf.length < 64
/-- What a call of the closure leaves as it was. -/
structure Kept (B : Nat) (w w' : World) : Prop where
  os : w'.os = w.os
  tape : w'.tape = w.tape
  output : w'.output = w.output
  size : w.heap.size ≤ w'.heap.size
  block : ∀ k, k < w.heap.size → (k < B + 1 ∨ B + 4 < k) → w'.heap[k]? = w.heap[k]?
theorem Kept.refl (B : Nat) (w : World) : Kept B w w := ⟨rfl, rfl, rfl, Nat.le_refl _, fun _ _ _ => rfl⟩
theorem Kept.trans {B : Nat} {a b c : World} (h : Kept B a b) (k : Kept B b c) : Kept B a c :=
  ⟨k.os.trans h.os, k.tape.trans h.tape, k.output.trans h.output, Nat.le_trans h.size k.size, fun i hi ho => (k.block i (Nat.lt_of_lt_of_le hi h.size) ho).trans (h.block i hi ho)⟩
theorem Kept.of_below {B : Nat} {w w' : World} (h : Below w.heap.size w w') : Kept B w w' := ⟨h.os, h.tape, h.output, h.size, fun k hk _ => h.block k hk⟩
theorem Kept.setRow {B : Nat} {w w' : World} (h : Kept B w w') (g : Nat) (h1 : B + 1 ≤ g) (h2 : g ≤ B + 4) (cs : Array Value) : Kept B w (w'.setRow g cs) :=
  ⟨h.os, h.tape, h.output, by rw [setRow_size]; exact h.size, fun k hk ho => (setRow_other w' g k cs (by omega)).trans (h.block k hk ho)⟩
theorem Kept.setCell {B : Nat} {w w' : World} (h : Kept B w w') (g j : Nat) (h1 : B + 1 ≤ g) (h2 : g ≤ B + 4) (v : Value) : Kept B w (w'.setCell ⟨g, j, none⟩ v) :=
  have q : Below g w' (w'.setCell ⟨g, j, none⟩ v) := (Below.refl g w').setCell (Nat.le_refl _) v
  ⟨q.os.trans h.os, q.tape.trans h.tape, q.output.trans h.output, Nat.le_trans h.size q.size, fun k hk ho => (Below.heap_setCell w' _ _ k (by show k ≠ g; omega)).trans (h.block k hk ho)⟩
end Go.Proofs.YtglgchjkonjpiaaGreatDoor
/-! A part absorbed: the walk of the closure. -/
namespace Go.Proofs.YtglgchjkonjpiaaGreatDoor
open Go.RowKit Plain
set_option linter.unusedVariables false
theorem Bytes.kept {B : Nat} {w w' : World} {a : Option Addr} {len : Nat} {xs : List Int} (h : Bytes w a len xs) (hk : Kept B w w') (ho : 0 < len → ∀ b o, a = some ⟨b, o, none⟩ → b < B + 1 ∨ B + 4 < b) : Bytes w' a len xs := by
  obtain ⟨h1, h2, h3, h4 | ⟨b, off, rfl, hc⟩⟩ := h
  · exact ⟨h1, h2, h3, .inl h4⟩
  · refine ⟨h1, h2, h3, .inr ⟨b, off, rfl, fun j hj => ?_⟩⟩
    have hlt : b < w.heap.size := by
      rcases Nat.lt_or_ge b w.heap.size with h | h
      · exact h
      · have := hc j hj
        simp [World.cell?, Array.getElem?_eq_none h] at this
    rw [← hc j hj]
    exact World.cell?_of_block (hk.block b hlt (ho (by omega) b off rfl))
set_option maxRecDepth 100000 in
theorem slice_64_from (B f : Nat) (hf : f < 64) (w : World) : (Instr.sliceAt 93 (.pointer (some ⟨B, 0, none⟩)) (some (.int .i64 (f : Int))) none none).run Tryz.prog w = .ok (.slice (some ⟨B, f, none⟩) (64 - f) (64 - f)) w := by
  have hal : Tryz.prog.arrayLen 93 = 64 := by kernel_rfl
  have hsz : ∀ W : World, (sizeOf (Tryz.prog.elem 93)).run Tryz.prog W = .ok 1 W := fun W => by kernel_rfl
  rw [run_sliceAt_array_l (P := Tryz.prog) w 93 ⟨B, 0, none⟩ (by kernel_rfl) .i64 (f : Int) (by omega) (by rw [hal]; omega), hsz, hal]
  have e1 : (f : Int).toNat = f := by omega
  simp only [Result.andThen_ok, slicedAt, e1, Nat.mul_one]
  rw [if_neg (by omega)]
  congr 3
  unfold Addr.add
  split <;> simp_all
set_option maxRecDepth 100000 in
theorem slice_rest (b o len cap n : Nat) (hn : n ≤ len) (hc : len ≤ cap) (w : World) : (Instr.sliceAt 22 (.slice (some ⟨b, o, none⟩) len cap) (some (.int .i64 (n : Int))) none none).run Tryz.prog w = .ok (.slice (if cap = n then some ⟨b, o, none⟩ else some ⟨b, o + n, none⟩) (len - n) (cap - n)) w := by
  have hsz : ∀ W : World, (sizeOf (Tryz.prog.elem 22)).run Tryz.prog W = .ok 1 W := fun W => by kernel_rfl
  rw [run_sliceAt_slice w 22 _ _ _ _ (by kernel_rfl), run_slice_l w 22 (some ⟨b, o, none⟩) len cap (by kernel_rfl) .i64 (n : Int) (by omega) (by omega), hsz]
  have e1 : (n : Int).toNat = n := by omega
  simp only [Result.andThen_ok, sliced, e1, Nat.mul_one, Option.map_some]
  congr 2
  split
  · rfl
  · unfold Addr.add; split <;> simp_all
theorem St.size {w : World} {B : Nat} {s : State} {z : Int} (h : St w B s z) (z' : Int) : St (w.setCell ⟨B + 4, 0, none⟩ (.int .u64 z')) B s z' := by
  have k : ∀ g, g ≠ B + 4 → (w.setCell ⟨B + 4, 0, none⟩ (.int .u64 z')).heap[g]? = w.heap[g]? := fun g hg => Below.heap_setCell w _ _ g hg
  obtain ⟨bs, b1, b2, b3, b4⟩ := h.blk
  exact ⟨(k _ (by omega)).trans h.h, ⟨bs, b1, b2, b3, (k _ (by omega)).trans b4⟩, (k _ (by omega)).trans h.fl, heap_setCell_same w (B + 4) 0 _ _ _ h.sz, (k _ (by omega)).trans h.wk, h.lt⟩
structure ShaMem (w : World) (B : Nat) (h : Five) (bs : List Int) (v : Value) (z : Int) : Prop where
  h : w.heap[B + 1]? = some (.cells (cells5V h) 92 (0, 0))
  blk : w.heap[B + 2]? = some (.cells (V8 bs) 93 (0, 0))
  fl : w.heap[B + 3]? = some (.cells #[v] 3 (0, 0))
  sz : w.heap[B + 4]? = some (.cells #[.int .u64 z] 39 (0, 0))
  wk : w.heap[B + 5]? = some (.cells #[workV B] 1 (0, 0))
theorem ShaMem.worked {W2 W : World} {B : Nat} {h r : Five} {bs : List Int} {v : Value} {z : Int} (H : ShaMem W2 B h bs v z) (hl : bs.length = 64) (hby : ∀ j : Nat, 0 ≤ bs[j]?.getD 0 ∧ bs[j]?.getD 0 ≤ 255) (hb : Below W2.heap.size W2 W) :
    St ((W.setRow (B + 1) (cells5V r)).setCell ⟨B + 3, 0, none⟩ (.int .i64 0)) B { h := r, buf := [] } z := by
  have lt : ∀ {g : Nat} {o : Obj}, W2.heap[g]? = some o → W.heap[g]? = some o := fun {g o} hg => (hb.block g (Array.getElem?_eq_some_iff.1 hg).1).trans hg
  have c : ∀ g, g ≠ B + 3 → ((W.setRow (B + 1) (cells5V r)).setCell ⟨B + 3, 0, none⟩ (.int .i64 0)).heap[g]? = (W.setRow (B + 1) (cells5V r)).heap[g]? := fun g hg => Below.heap_setCell _ _ _ g hg
  have d : ∀ g, g ≠ B + 1 → (W.setRow (B + 1) (cells5V r)).heap[g]? = W.heap[g]? := fun g hg => setRow_other W (B + 1) g _ hg
  exact ⟨(c _ (by omega)).trans (setRow_heap W (B + 1) _ _ _ _ (lt H.h)), ⟨bs, hl, hby, by simp, (c _ (by omega)).trans ((d _ (by omega)).trans (lt H.blk))⟩,
    heap_setCell_same _ (B + 3) 0 _ _ _ ((d _ (by omega)).trans (lt H.fl)), (c _ (by omega)).trans ((d _ (by omega)).trans (lt H.sz)), (c _ (by omega)).trans ((d _ (by omega)).trans (lt H.wk)), by simp⟩
theorem splice_bytes (bs cs : List Int) (f : Nat) (hf : f + cs.length ≤ bs.length) (hb : ∀ j : Nat, 0 ≤ bs[j]?.getD 0 ∧ bs[j]?.getD 0 ≤ 255) (hc : ∀ j : Nat, 0 ≤ cs[j]?.getD 0 ∧ cs[j]?.getD 0 ≤ 255) :
    ∀ j : Nat, 0 ≤ (bs.take f ++ (cs ++ bs.drop (f + cs.length)))[j]?.getD 0 ∧ (bs.take f ++ (cs ++ bs.drop (f + cs.length)))[j]?.getD 0 ≤ 255 := fun j => by
  have hl : (bs.take f).length = f := by rw [List.length_take]; omega
  by_cases h1 : j < f
  · rw [List.getElem?_append_left (by omega), List.getElem?_take_of_lt h1]; exact hb j
  · rw [List.getElem?_append_right (by omega), hl]
    by_cases h2 : j - f < cs.length
    · rw [List.getElem?_append_left h2]; exact hc _
    · rw [List.getElem?_append_right (by omega), List.getElem?_drop]; exact hb _
set_option maxRecDepth 100000 in
set_option maxHeartbeats 8000000 in
theorem take_any (B : Nat) (s : State) (z : Nat) (a : Option Addr) (cap : Nat) (xs : List Int) (w : World) (hz : z + xs.length < 18446744073709551616) (hcap : xs.length ≤ cap) (hin : B + 5 < w.heap.size)
    (H : Bytes w a xs.length xs) (ho : 0 < xs.length → ∀ b o, a = some ⟨b, o, none⟩ → b < B + 1 ∨ B + 4 < b) (hst : St w B s z) :
    Calls Tryz.prog 61 #[.slice a xs.length cap, .pointer (some ⟨B + 4, 0, none⟩), .pointer (some ⟨B + 2, 0, none⟩), .pointer (some ⟨B + 3, 0, none⟩), .pointer (some ⟨B + 5, 0, none⟩)] w fun e w' =>
      e = .returned (.tuple #[]) ∧ St w' B (absorb s xs) ((z + xs.length : Nat) : Int) ∧ Kept B w w' := by
  have c4 := cell_of_row w (B + 4) 0 _ _ _ hst.sz
  have f4 := free5 hst.sz 0
  have hlen := H.2.1
  have hwz : (z : Int) + (xs.length : Int) < 18446744073709551616 := by omega
  have HO : Hid (0 < xs.length → ∀ b o, a = some ⟨b, o, none⟩ → b < B + 1 ∨ B + 4 < b) := ho
  have HH : Hid (Bytes w a xs.length xs) := H
  have HS : Hid (St w B s z) := hst
  clear ho H hst
  go_enter Tryz.func61, Tryz.ntmps61
  go_wp2_with fail
  have HS0 : Hid (St (w.setCell ⟨B + 4, 0, none⟩ (.int .u64 ((z : Int) + (xs.length : Int)))) B s ((z : Int) + (xs.length : Int))) := HS.out.size _
  have HK0 : Hid (Kept B w (w.setCell ⟨B + 4, 0, none⟩ (.int .u64 ((z : Int) + (xs.length : Int))))) := (Kept.refl B w).setCell (B + 4) 0 (by omega) (by omega) _
  have HI0 : Hid (B + 5 < (w.setCell ⟨B + 4, 0, none⟩ (.int .u64 ((z : Int) + (xs.length : Int)))).heap.size) := Nat.lt_of_lt_of_le hin HK0.out.size
  generalize (w.setCell ⟨B + 4, 0, none⟩ (.int .u64 ((z : Int) + (xs.length : Int)))) = w0 at *
  clear c4 f4
  go_loopw [0] (fun v wr => ∃ (pre ys : List Int) (A' : Option Addr) (C' : Nat), xs = pre ++ ys ∧ v = .slice A' ys.length C' ∧ ys.length ≤ C' ∧ Bytes wr A' ys.length ys ∧ (0 < ys.length → ∀ b o, A' = some ⟨b, o, none⟩ → b < B + 1 ∨ B + 4 < b) ∧ St wr B (absorb s pre) ((z : Int) + (xs.length : Int)) ∧ Kept B w wr) (fun v _ => sizeV v)
  case atStart => exact ⟨[], xs, a, cap, rfl, rfl, hcap, HH.out.kept HK0.out HO.out, HO.out, HS0.out, HK0.out⟩
  case round =>
    clear HS0 HK0 HI0 HH HO HS
    obtain ⟨pre, ys, A', C', hxs, rfl, hC, hB, hA, hst, hkept⟩ := hrel
    have hys : ys.length ≤ 9223372036854775807 := hB.2.1
    by_cases hne : ys.length = 0
    · have hne' : ¬ (0 : Int) < ys.length := by omega
      have HF : Hid (ys = []) := List.eq_nil_of_length_eq_zero hne
      have HST : Hid (St wr B (absorb s pre) ((z : Int) + (xs.length : Int))) := hst
      have HXS : Hid (xs = pre ++ ys) := hxs
      clear hst hB hA hxs
      go_wp2_with fail
      go_end0
      refine ⟨rfl, ?_, hkept⟩
      have e : xs = pre := by rw [HXS.out, HF.out, List.append_nil]
      rw [e] at HST ⊢
      simpa using HST.out
    · have hpos : (0 : Int) < ys.length := by omega
      obtain ⟨st, hstE⟩ : ∃ st, absorb s pre = st := ⟨_, rfl⟩
      rw [hstE] at hst
      obtain ⟨bs, b1, b2, b3, b4⟩ := hst.blk
      obtain ⟨f, hf⟩ : ∃ f, st.buf.length = f := ⟨_, rfl⟩
      have hfl := hst.fl
      rw [hf] at hfl b3
      have hf64 : f < 64 := by rw [← hf]; exact hst.lt
      obtain ⟨n, hn⟩ : ∃ n, Nat.min ys.length (64 - f) = n := ⟨_, rfl⟩
      have hn1 : n ≤ ys.length := by rw [← hn]; exact Nat.min_le_left _ _
      have hn2 : n ≤ 64 - f := by rw [← hn]; exact Nat.min_le_right _ _
      have hn0 : 0 < n := by rw [← hn]; exact Nat.lt_min.2 ⟨by omega, by omega⟩
      have HN0 : Hid (0 < n) := hn0
      clear hn0
      have hcn : ((ys.take n).map (Value.int .u8)).length = n := by rw [List.length_map, List.length_take]; omega
      obtain ⟨b, o, rfl, hsrc⟩ : ∃ b o, A' = some ⟨b, o, none⟩ ∧ ∀ j, j < ys.length → wr.cell? ⟨b, o + j, none⟩ = some (.int .u8 (ys[j]?.getD 0)) := by
        obtain ⟨_, _, _, h4 | h4⟩ := hB
        · omega
        · exact h4
      have HSRC : Hid (∀ j v, ((ys.take n).map (Value.int .u8))[j]? = some v → wr.cell? ((⟨b, o, none⟩ : Addr).add j) = some v) := fun j v hv => by
        have hj : j < n := by have := (List.getElem?_eq_some_iff.1 hv).1; rw [hcn] at this; exact this
        rw [Addr.add_mid, hsrc j (by omega), ← hv]
        simp [hj, show j < ys.length by omega]
      have HB2 : Hid (wr.heap[B + 2]? = some (.cells (V8 bs) 93 (0, 0))) := b4
      have HCN : Hid (((ys.take n).map (Value.int .u8)).length = Nat.min ys.length (64 - f)) := by show _ = _; rw [hcn, hn]
      have HFIT : Hid (f + ((ys.take n).map (Value.int .u8)).length ≤ (V8 bs).size) := by show _ ≤ _; rw [hcn, V8_size, b1]; omega
      have HONE : Hid (∀ v ∈ ((ys.take n).map (Value.int .u8)), v.oneCell' = true) := fun v hv => by
        rw [List.mem_map] at hv; obtain ⟨x, _, rfl⟩ := hv; rfl
      have HST : Hid (St wr B st ((z : Int) + (xs.length : Int))) := hst
      have HBY : Hid (Bytes wr (some ⟨b, o, none⟩) ys.length ys) := hB
      have HA : Hid (∀ b' o', (some ⟨b, o, none⟩ : Option Addr) = some ⟨b', o', none⟩ → b' < B + 1 ∨ B + 4 < b') := hA (by omega)
      have HXS : Hid (xs = pre ++ ys) := hxs
      have HBS : Hid (bs.length = 64 ∧ (∀ j : Nat, 0 ≤ bs[j]?.getD 0 ∧ bs[j]?.getD 0 ≤ 255) ∧ bs.take f = st.buf) := ⟨b1, b2, b3⟩
      have e3 : wr.cell? ⟨B + 3, 0, none⟩ = some (.int .i64 (f : Int)) := by rw [cell_of_row wr (B + 3) 0 _ _ _ hfl]; rfl
      have hs64 := slice_64_from (B + 2) f hf64
      have HFF : Hid (st.buf.length = f ∧ absorb s pre = st) := ⟨hf, hstE⟩
      have HM : Hid (Nat.min ys.length (64 - f) = n) := hn
      have HKK : Hid (Kept B w wr) := hkept
      clear hst hB hA hxs b1 b2 b3 b4 hsrc hn hkept hfl
      have HYN : Hid (((ys.take n).map (Value.int .u8)).length = n) := hcn
      obtain ⟨cs, hcs⟩ : ∃ cs, (ys.take n).map (Value.int .u8) = cs := ⟨_, rfl⟩
      rw [hcs] at HSRC HCN HFIT HONE HYN
      have HCS : Hid ((ys.take n).map (Value.int .u8) = cs) := hcs
      clear hcs
      have hcl : cs.length = n := HYN.out
      generalize hm : ys.length = m at *
      have HMM : Hid (ys.length = m) := hm
      clear hm hne hcn hf hstE
      have hpos' : 0 < m := by omega
      have tok1 : True := trivial
      go_wp2_with (have _t := tok1; refine wpList_copy_own rfl (.tmp 16) (.tmp 17) 22 22 rfl 5 Tryz.underlying22 (by kernel_rfl) (B + 2) f (64 - f) (64 - f) ⟨b, o, none⟩ m C' rfl rfl (V8 bs) 93 HB2.out cs HCN.out HSRC.out HFIT.out HONE.out ?_; clear tok1)
      generalize hRow : (List.take f (V8 bs).toList ++ (cs ++ List.drop (f + n) (V8 bs).toList)).toArray = C
      have HRow : Hid ((List.take f (V8 bs).toList ++ (cs ++ List.drop (f + n) (V8 bs).toList)).toArray = C) := hRow
      have HR2 : Hid ((wr.setRow (B + 2) C).heap[B + 2]? = some (.cells C 93 (0, 0))) := setRow_heap wr (B + 2) _ C _ _ HB2.out
      have HRO : Hid (∀ k, k ≠ B + 2 → (wr.setRow (B + 2) C).heap[k]? = wr.heap[k]?) := fun k hk => setRow_other wr (B + 2) k C hk
      have HK1 : Hid (Kept B w (wr.setRow (B + 2) C)) := HKK.out.setRow (B + 2) (by omega) (by omega) C
      have HKW1 : Hid (Kept B wr (wr.setRow (B + 2) C)) := (Kept.refl B wr).setRow (B + 2) (by omega) (by omega) C
      clear hRow e3 hs64
      generalize wr.setRow (B + 2) C = W1 at *
      have hf1 : W1.heap[B + 3]? = some (.cells #[.int .i64 (f : Int)] 3 (0, 0)) := by rw [HRO.out _ (by omega), ← HFF.out.1]; exact HST.out.fl
      have e3 : W1.cell? ⟨B + 3, 0, none⟩ = some (.int .i64 (f : Int)) := by rw [cell_of_row W1 (B + 3) 0 _ _ _ hf1]; rfl
      have f3 := free5 hf1 0
      have HF1 : Hid (W1.heap[B + 3]? = some (.cells #[.int .i64 (f : Int)] 3 (0, 0))) := hf1
      have hsl := slice_rest b o m C' n hn1 hC
      obtain ⟨A2, hA2⟩ : ∃ A2, (if C' = n then some (⟨b, o, none⟩ : Addr) else some ⟨b, o + n, none⟩) = A2 := ⟨_, rfl⟩
      rw [hA2] at hsl
      have HA2 : Hid ((if C' = n then some (⟨b, o, none⟩ : Addr) else some ⟨b, o + n, none⟩) = A2) := hA2
      have hfn : (f : Int) + (n : Int) ≤ 64 := by omega
      clear hf1 hA2 hcl
      go_region
      generalize hE : ys.take n = cs2 at *
      have hCV : C = V8 (bs.take f ++ (cs2 ++ bs.drop (f + cs2.length))) := by
        have e1 : cs2.length = n := by rw [← hE, List.length_take, HMM.out]; omega
        rw [← HRow.out, ← HCS.out, e1]
        unfold V8
        simp [List.map_take, List.map_drop]
      have HLEN2 : Hid (cs2.length = n) := by show cs2.length = n; rw [← hE, List.length_take, HMM.out]; omega
      have HLB : Hid ((bs.take f ++ (cs2 ++ bs.drop (f + cs2.length))).length = 64) := by
        show (bs.take f ++ (cs2 ++ bs.drop (f + cs2.length))).length = 64
        have := HBS.out.1
        have := HLEN2.out
        simp; omega
      have HBB : Hid (∀ j : Nat, 0 ≤ (bs.take f ++ (cs2 ++ bs.drop (f + cs2.length)))[j]?.getD 0 ∧ (bs.take f ++ (cs2 ++ bs.drop (f + cs2.length)))[j]?.getD 0 ≤ 255) := by
        refine splice_bytes bs cs2 f (by have := HBS.out.1; have := HLEN2.out; omega) HBS.out.2.1 ?_
        have := (HBY.out.first n).2.2.1
        rw [hE] at this
        exact this
      have HTK : Hid ((bs.take f ++ (cs2 ++ bs.drop (f + cs2.length))).take (f + n) = st.buf ++ cs2) := by
        show (bs.take f ++ (cs2 ++ bs.drop (f + cs2.length))).take (f + n) = st.buf ++ cs2
        have h1 : (bs.take f).length = f := by have := HBS.out.1; simp; omega
        rw [← HBS.out.2.2, ← List.append_assoc, List.take_append_of_le_length (by have := HLEN2.out; have := HBS.out.1; simp; omega), List.take_of_length_le (by have := HLEN2.out; have := HBS.out.1; simp; omega)]
      have HM2 : Hid (ShaMem (W1.setCell ⟨B + 3, 0, none⟩ (.int .i64 ((f : Int) + (n : Int)))).drew B st.h (bs.take f ++ (cs2 ++ bs.drop (f + cs2.length))) (.int .i64 ((f : Int) + (n : Int))) ((z : Int) + (xs.length : Int))) := by
        have k : ∀ g, g ≠ B + 3 → (W1.setCell ⟨B + 3, 0, none⟩ (.int .i64 ((f : Int) + (n : Int)))).drew.heap[g]? = W1.heap[g]? := fun g hg => Below.heap_setCell W1 _ _ g hg
        refine ⟨(k _ (by omega)).trans ((HRO.out _ (by omega)).trans HST.out.h), ?_, heap_setCell_same W1 (B + 3) 0 _ _ _ HF1.out, (k _ (by omega)).trans ((HRO.out _ (by omega)).trans HST.out.sz), (k _ (by omega)).trans ((HRO.out _ (by omega)).trans HST.out.wk)⟩
        rw [← hCV]
        exact (k _ (by omega)).trans HR2.out
      have HK2 : Hid (Kept B w (W1.setCell ⟨B + 3, 0, none⟩ (.int .i64 ((f : Int) + (n : Int)))).drew) := by
        have := HK1.out.setCell (B + 3) 0 (by omega) (by omega) (.int .i64 ((f : Int) + (n : Int)))
        exact ⟨this.os, this.tape, this.output, this.size, this.block⟩
      have HKW : Hid (Kept B wr (W1.setCell ⟨B + 3, 0, none⟩ (.int .i64 ((f : Int) + (n : Int)))).drew) := by
        have := HKW1.out.setCell (B + 3) 0 (by omega) (by omega) (.int .i64 ((f : Int) + (n : Int)))
        exact ⟨this.os, this.tape, this.output, this.size, this.block⟩
      have HE : Hid (ys.take n = cs2) := hE
      have HA3 : Hid (0 < m - n → ∀ b' o', A2 = some ⟨b', o', none⟩ → b' < B + 1 ∨ B + 4 < b')   := fun _ b' o' h => by
        have h0 := HA.out b o rfl
        rw [← HA2.out] at h
        split at h
        · obtain ⟨rfl, -⟩ : b = b' ∧ o = o' := by
            injection h with h; injection h with h1 h2; exact ⟨h1, h2⟩
          exact h0
        · obtain ⟨rfl, -⟩ : b = b' ∧ o + n = o' := by
            injection h with h; injection h with h1 h2; exact ⟨h1, h2⟩
          exact h0
      have HBR : Hid (Bytes wr A2 (m - n) (ys.drop n)) := by
        have hs := HBY.out.sub n (m - n) (by omega)
        rw [List.take_of_length_le (by rw [List.length_drop, HMM.out]; omega)] at hs
        show Bytes wr A2 (m - n) (ys.drop n)
        rw [← HA2.out]
        split
        · exact ⟨hs.1, hs.2.1, hs.2.2.1, .inl (by omega)⟩
        · exact hs
      have HCV : Hid (C = V8 (bs.take f ++ (cs2 ++ bs.drop (f + cs2.length)))) := hCV
      clear hCV e3 f3 hsl
      generalize (W1.setCell ⟨B + 3, 0, none⟩ (.int .i64 ((f : Int) + (n : Int)))).drew = W2 at *
      generalize hNB : bs.take f ++ (cs2 ++ bs.drop (f + cs2.length)) = nb at *
      have HNB : Hid (bs.take f ++ (cs2 ++ bs.drop (f + cs2.length)) = nb) := hNB
      clear hNB
      obtain ⟨q, hq⟩ : ∃ q : Nat, f + n = q := ⟨_, rfl⟩
      have e3 : W2.cell? ⟨B + 3, 0, none⟩ = some (.int .i64 (q : Int)) := by rw [cell_of_row W2 (B + 3) 0 _ _ _ HM2.out.fl, ← hq]; simp
      have HQ : Hid (f + n = q) := hq
      clear hq hfn
      have e5 : W2.cell? ⟨B + 5, 0, none⟩ = some (.func (.func 58) #[] #[.pointer (some ⟨B + 1, 0, none⟩), .pointer (some ⟨B + 2, 0, none⟩), .pointer (some ⟨B + 3, 0, none⟩)]) := by rw [cell_of_row W2 (B + 5) 0 _ _ _ HM2.out.wk]; rfl
      by_cases h64 : q = 64
      · have h64' : (q : Int) = 64 := by omega
        go_wp2_with (go_at_call 58; refine (work_any (B + 1) (B + 2) (B + 3) st.h _ nb _ rfl rfl _ W2 HLB.out HBB.out HM2.out.h HM2.out.blk HM2.out.fl (by omega) (by omega)).mono ?_; rintro e w' ⟨rfl, W, hbW, rfl⟩)
        have HKF : Hid (Kept B W2 ((W.setRow (B + 1) (cells5V (mix st.h (wordsTo nb 80)))).setCell ⟨B + 3, 0, none⟩ (.int .i64 0))) := ((Kept.of_below hbW).setRow (B + 1) (by omega) (by omega) _).setCell (B + 3) 0 (by omega) (by omega) _
        have HSB : Hid (st.buf ++ cs2 = nb) := by
          show st.buf ++ cs2 = nb
          rw [← HTK.out, HQ.out, h64, List.take_of_length_le (by rw [HLB.out]; omega)]
        refine ⟨⟨pre ++ cs2, ys.drop n, A2, C' - n, ?_, ?_, ?_, ?_, ?_, ?_, ?_⟩, ?_⟩
        · rw [List.append_assoc, ← HE.out, List.take_append_drop]; exact HXS.out
        · rw [List.length_drop, HMM.out]
        · rw [List.length_drop, HMM.out]; omega
        · rw [List.length_drop, HMM.out]; exact (HBR.out.kept HKW.out HA3.out).kept HKF.out HA3.out
        · rw [List.length_drop, HMM.out]; exact HA3.out
        · rw [absorb_append, HFF.out.2, absorb_full _ _ (by rw [HFF.out.1, HLEN2.out, HQ.out, h64]) (by rw [HFF.out.1]; exact hf64), HSB.out]
          exact HM2.out.worked HLB.out HBB.out hbW
        · exact HK2.out.trans HKF.out
        · have := HN0.out; simp only [sizeV]; omega
      · have h64' : ¬ (q : Int) = 64 := by omega
        have hb1 : ((q : Int) == 64) = false := by simpa using h64'
        have hb2 : decide ((q : Int) = 64) = false := by simpa using h64'
        have H64 : Hid (¬ q = 64) := h64
        clear h64 h64'
        go_wp2_with fail
        refine ⟨⟨pre ++ cs2, ys.drop n, A2, C' - n, ?_, ?_, ?_, ?_, ?_, ?_, ?_⟩, ?_⟩
        · rw [List.append_assoc, ← HE.out, List.take_append_drop]; exact HXS.out
        · rw [List.length_drop, HMM.out]
        · rw [List.length_drop, HMM.out]; omega
        · rw [List.length_drop, HMM.out]; exact HBR.out.kept HKW.out HA3.out
        · rw [List.length_drop, HMM.out]; exact HA3.out
        · rw [absorb_append, HFF.out.2, absorb_lt _ _ (by rw [HFF.out.1, HLEN2.out]; have := HQ.out; have := H64.out; omega)]
          exact ⟨HM2.out.h, ⟨nb, HLB.out, HBB.out, by rw [show (st.buf ++ cs2).length = f + n by rw [List.length_append, HFF.out.1, HLEN2.out]]; exact HTK.out, HM2.out.blk⟩, by
            have := HM2.out.fl
            rw [show (((st.buf ++ cs2).length : Nat) : Int) = (f : Int) + (n : Int) by rw [List.length_append, HFF.out.1, HLEN2.out]; omega]
            exact this, HM2.out.sz, HM2.out.wk, by rw [List.length_append, HFF.out.1, HLEN2.out]; have := HQ.out; have := H64.out; omega⟩
        · exact HK2.out
        · have := HN0.out; simp only [sizeV]; omega
end Go.Proofs.YtglgchjkonjpiaaGreatDoor
