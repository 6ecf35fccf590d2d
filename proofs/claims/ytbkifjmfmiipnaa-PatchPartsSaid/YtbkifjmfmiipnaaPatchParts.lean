/- The program's statement PatchParts holds: for every input it returns true and leaves its arguments as they were. No further condition. -/
import Derived.Test.YtbkifjmfmiipnaaRows
import Derived.WalkKit
import Derived.ProofKit
import Derived.OpenShut
import Derived.ShutString
import Derived.ChangeOld
import Derived.Below
import Derived.StillTailTactics
import Derived.Deep.RegionHeld3
import Derived.Deep.AppendLies
import Derived.StillTactics
import Derived.Deep.RegionWith
import Derived.WalkSpells
import Derived.Outline
import Derived.Test.YtbkifjmfmiipnaaPartsRun
namespace Go.Proofs.Ytbkifjmfmiipnaa.patchParts
open Go.ChangeShapes Go.WideShapes Go.ChangeAt Go.RowKit
open Go.ChangeMaps (open_string shut_string)
set_option linter.unusedVariables false

theorem own : ownKnob Try.prog.godebug = none := by kernel_rfl
theorem laidOut : laidOutB Try.prog = true := by kernel_rfl

/-- A slice of integers that came in: nil, or a row of cells. -/
def IsRow (k : IntKind) (w : World) (a : Option Addr) (len cap : Nat) (zs : List Int) : Prop :=
  (a = none ∧ len = 0 ∧ cap = 0 ∧ zs = []) ∨
  ∃ x, a = some x ∧ len ≤ cap ∧ cap ≤ maxLen ∧ zs.length = cap ∧ (∀ i, i < zs.length → w.cell? (x.add i) = some (.int k (zs.getD i 0))) ∧ ∀ n ∈ zs, (Lit.int k n).wf = true
open Plain
theorem str_append (xs ys : List Int) : strOfNums xs ++ strOfNums ys = strOfNums (xs ++ ys) := by
  apply ByteArray.ext
  rw [ByteArray.data_append]
  apply Array.toList_inj.1
  rw [Array.toList_append, strOfNums_data, strOfNums_data, strOfNums_data, List.map_append]
theorem nil_row {k : IntKind} {w : World} {a : Option Addr} {len cap : Nat} {zs : List Int} (h : IsRow k w a len cap zs) : a = none → cap = 0 := by
  rcases h with ⟨-, -, h, -⟩ | ⟨x, rfl, -⟩
  · exact fun _ => h
  · exact fun e => by cases e
theorem run_min2 {P : Program} (ts : Array TypeId) (t : TypeId) (k k1 : IntKind) (x y : Int) (w : World) : (Builtin.min_ ts t #[.int k x, .int k1 y]).run P w = .ok (.int k (min x y)) w := by
  have e : ∀ p q : Int, (if q < p then q else p) = min p q := fun p q => by split <;> omega
  simp [Builtin.min_, Builtin.min2, e]
theorem wp_via {P : Program} {c : Code} {Q : Exit → Act → World → Prop} {a : Act} {w : World} (A : Act) (W : World) (h1 : c.wp P (fun e a' w' => e = .normal ∧ a' = A ∧ w' = W) a w) (h2 : Q .normal A W) : c.wp P Q a w := by
  refine wp_mono h1 fun e a' w' ⟨he, ha, hw⟩ => ?_
  subst he ha hw
  exact h2
theorem below_drewN {b : Nat} {w W : World} (h : Below b w W) (n : Nat) : Below b w (W.drewN n) := ⟨h.os, h.tape, h.output, h.size, h.block⟩
theorem wp_via_ex {P : Program} {c : Code} {Q : Exit → Act → World → Prop} {a : Act} {w : World} {R : Nat → Nat → World → Prop} (A : Nat → Nat → Act) (h1 : c.wp P (fun e a' w' => e = .normal ∧ ∃ x y, a' = A x y ∧ R x y w') a w) (h2 : ∀ x y W, R x y W → Q .normal (A x y) W) : c.wp P Q a w := by
  refine wp_mono h1 fun e a' w' ⟨he, x, y, ha, hr⟩ => ?_
  subst he ha
  exact h2 x y w' hr
/-- The places up to the i-th one are in order, but for the k-th one's being too great. -/
def Ins (m : Int) (i k : Nat) (q0 q1 q2 q3 : Int) : Prop :=
  (0 ≤ q0 ∧ q0 ≤ m ∧ 0 ≤ q1 ∧ q1 ≤ m ∧ 0 ≤ q2 ∧ q2 ≤ m ∧ 0 ≤ q3 ∧ q3 ≤ m) ∧
  (1 ≤ i → k ≠ 1 → q0 ≤ q1) ∧ (2 ≤ i → k ≠ 2 → q0 ≤ q2 ∧ q1 ≤ q2) ∧ (3 ≤ i → k ≠ 3 → q0 ≤ q3 ∧ q1 ≤ q3 ∧ q2 ≤ q3)
def Srt (m : Int) (i : Nat) (q0 q1 q2 q3 : Int) : Prop :=
  (0 ≤ q0 ∧ q0 ≤ m ∧ 0 ≤ q1 ∧ q1 ≤ m ∧ 0 ≤ q2 ∧ q2 ≤ m ∧ 0 ≤ q3 ∧ q3 ≤ m) ∧
  (2 ≤ i → q0 ≤ q1) ∧ (3 ≤ i → q1 ≤ q2) ∧ (4 ≤ i → q2 ≤ q3)
theorem pick4 (a3 a4 a5 a6 : Int) (i : Nat) (h : i < 4) : ∃ xi : Int, ∀ W, (Instr.index 39 (.agg #[.int .i64 a3, .int .i64 a4, .int .i64 a5, .int .i64 a6]) (.int .i64 (i : Int))).run Try.prog W = .ok (.int .i64 xi) W := by
  have hc : i = 0 ∨ i = 1 ∨ i = 2 ∨ i = 3 := by omega
  rcases hc with rfl | rfl | rfl | rfl
  · exact ⟨a3, fun W => by kernel_rfl⟩
  · exact ⟨a4, fun W => by kernel_rfl⟩
  · exact ⟨a5, fun W => by kernel_rfl⟩
  · exact ⟨a6, fun W => by kernel_rfl⟩
theorem cell4 {w : World} {b : Nat} {t : TypeId} (q0 q1 q2 q3 : Int) (i : Nat) (h : i < 4) (hr : w.heap[b]? = some (.cells #[.int .i64 q0, .int .i64 q1, .int .i64 q2, .int .i64 q3] t (0, 0))) : ∃ qi : Int, w.cell? ⟨b, i, none⟩ = some (.int .i64 qi) := by
  have hc : i = 0 ∨ i = 1 ∨ i = 2 ∨ i = 3 := by omega
  rcases hc with rfl | rfl | rfl | rfl
  · exact ⟨q0, (cell_of_row _ _ 0 _ _ hr).trans rfl⟩
  · exact ⟨q1, (cell_of_row _ _ 1 _ _ hr).trans rfl⟩
  · exact ⟨q2, (cell_of_row _ _ 2 _ _ hr).trans rfl⟩
  · exact ⟨q3, (cell_of_row _ _ 3 _ _ hr).trans rfl⟩
theorem put4 {w : World} {b m : Nat} {t : TypeId} {q0 q1 q2 q3 y : Int} (i : Nat) (h : i < 4) (hy0 : 0 ≤ y) (hy1 : y ≤ m) (hr : w.heap[b]? = some (.cells #[.int .i64 q0, .int .i64 q1, .int .i64 q2, .int .i64 q3] t (0, 0))) (hs : Srt m i q0 q1 q2 q3) :
    ∃ s0 s1 s2 s3 : Int, (w.setCell ⟨b, i, none⟩ (.int .i64 y)).heap[b]? = some (.cells #[.int .i64 s0, .int .i64 s1, .int .i64 s2, .int .i64 s3] t (0, 0)) ∧ Ins m i i s0 s1 s2 s3 := by
  unfold Srt at hs
  have hc : i = 0 ∨ i = 1 ∨ i = 2 ∨ i = 3 := by omega
  rcases hc with rfl | rfl | rfl | rfl
  · exact ⟨y, q1, q2, q3, (heap_setCell_same w b 0 _ _ _ hr).trans rfl, by unfold Ins; omega⟩
  · exact ⟨q0, y, q2, q3, (heap_setCell_same w b 1 _ _ _ hr).trans rfl, by unfold Ins; omega⟩
  · exact ⟨q0, q1, y, q3, (heap_setCell_same w b 2 _ _ _ hr).trans rfl, by unfold Ins; omega⟩
  · exact ⟨q0, q1, q2, y, (heap_setCell_same w b 3 _ _ _ hr).trans rfl, by unfold Ins; omega⟩
/-! ### The walk -/
set_option maxRecDepth 100000 in
set_option maxHeartbeats 60000000 in
theorem walk (a0 : Option Addr) (len0 cap0 : Nat) (z0 : List Int) (a1 : Option Addr) (len1 cap1 : Nat) (z1 : List Int) (a2 : Option Addr) (len2 cap2 : Nat) (z2 : List Int) (a3 : Int) (a4 : Int) (a5 : Int) (a6 : Int) (w : World) (w0 : IsRow .u8 w a0 len0 cap0 z0) (w1 : IsRow .u8 w a1 len1 cap1 z1) (w2 : IsRow .u8 w a2 len2 cap2 z2) (w3 : (Lit.int .i64 a3).wf = true) (w4 : (Lit.int .i64 a4).wf = true) (w5 : (Lit.int .i64 a5).wf = true) (w6 : (Lit.int .i64 a6).wf = true) :
    Calls Try.prog 6 #[.slice a0 len0 cap0, .slice a1 len1 cap1, .slice a2 len2 cap2, .int .i64 a3, .int .i64 a4, .int .i64 a5, .int .i64 a6] w fun e w' => e = .returned (.bool true) ∧ Below w.heap.size w w' := by
  have HN0 : Hid (a0 = none → cap0 = 0) := nil_row w0
  have HN1 : Hid (a1 = none → cap1 = 0) := nil_row w1
  have HN2 : Hid (a2 = none → cap2 = 0) := nil_row w2
  obtain ⟨hb0, hlc0, hcm0⟩ := bytes_of w0
  obtain ⟨hb1, hlc1, hcm1⟩ := bytes_of w1
  obtain ⟨hb2, hlc2, hcm2⟩ := bytes_of w2
  have HB0 : Hid (Bytes w a0 (min len0 1000) ((z0.take len0).take 1000)) := hb0.first 1000
  have HB1 : Hid (Bytes w a1 (min len1 100) ((z1.take len1).take 100)) := hb1.first 100
  have HB2 : Hid (Bytes w a2 (min len2 100) ((z2.take len2).take 100)) := hb2.first 100
  clear w0 w1 w2 w3 w4 w5 w6 hb0 hb1 hb2
  generalize (z0.take len0).take 1000 = base at *
  generalize (z1.take len1).take 100 = one at *
  generalize (z2.take len2).take 100 = two at *
  obtain ⟨m, hm⟩ : ∃ m, min len0 1000 = m := ⟨_, rfl⟩
  have hm5 : m ≤ 1000 := by omega
  have hmc : m ≤ cap0 := by omega
  have hmin1 : min len1 100 ≤ len1 := Nat.min_le_left _ _
  have hmin2 : min len2 100 ≤ len2 := Nat.min_le_left _ _
  have hm1c : min len1 100 ≤ cap1 := by omega
  have hm2c : min len2 100 ≤ cap2 := by omega
  have hm1l : min len1 100 ≤ 100 := by omega
  have hm2l : min len2 100 ≤ 100 := by omega
  rw [hm] at HB0
  have HF : Hid (Calls Try.prog 8 #[.slice a0 len0 cap0] w fun e w' => e = .returned (.slice a0 m cap0) ∧ w' = w) := by
    rw [← hm]; exact few_any a0 len0 cap0 [] w hlc0 hcm0
  clear hm
  have hmn : ∀ (ts : Array TypeId) (t : TypeId) (x y : Int) (W : World), (Builtin.min_ ts t #[.int .i64 x, .int .i64 y]).run Try.prog W = .ok (.int .i64 (min x y)) W := fun ts t x y W => run_min2 ts t .i64 .i64 x y W
  have s1 : ∀ W, (Instr.sliceAt 22 (.slice a1 len1 cap1) none (some (.int .i64 (min (len1 : Int) 100))) none).run Try.prog W = .ok (.slice a1 (min len1 100) cap1) W := fun W => by
    have := slice_to a1 len1 cap1 (min len1 100) (by omega) W
    rwa [show ((min len1 100 : Nat) : Int) = min (len1 : Int) 100 by omega] at this
  have s2 : ∀ W, (Instr.sliceAt 22 (.slice a2 len2 cap2) none (some (.int .i64 (min (len2 : Int) 100))) none).run Try.prog W = .ok (.slice a2 (min len2 100) cap2) W := fun W => by
    have := slice_to a2 len2 cap2 (min len2 100) (by omega) W
    rwa [show ((min len2 100 : Nat) : Int) = min (len2 : Int) 100 by omega] at this
  go_enter Try.func6, Try.ntmps6
  go_wp2_with (go_at_call 8; refine HF.out.mono ?_; rintro e wq ⟨rfl, hwq⟩; have hwq2 := hwq.symm; subst hwq2; clear hwq)
  apply wp_via
  · go_region_held3 (fun _ => True) (trivial) (fail)
    all_goals exact ⟨rfl, rfl, rfl⟩
  have em1 : (min (len1 : Int) 100).toNat = min len1 100 := by omega
  have em2 : (min (len2 : Int) 100).toNat = min len2 100 := by omega
  try rw [em1, em2]
  generalize (min (len1 : Int) 100) = mi1 at *
  generalize (min (len2 : Int) 100) = mi2 at *
  clear em1 em2 hmin1 hmin2 hlc1 hlc2 s1 s2 hmn
  generalize min len1 100 = m1 at *
  generalize min len2 100 = m2 at *
  go_wp2_with fail
--LOOP
  have H39 : Hid ((w.alloc (.cells #[.int .i64 0, .int .i64 0, .int .i64 0, .int .i64 0] 39)).drew.heap[w.heap.size]? = some (.cells #[.int .i64 0, .int .i64 0, .int .i64 0, .int .i64 0] 39 (0, 0))) := heap_alloc_new w _
  have HBE0 : Hid (Below w.heap.size w (w.alloc (.cells #[.int .i64 0, .int .i64 0, .int .i64 0, .int .i64 0] 39)).drew) := ((Below.refl _ _).alloc (Nat.le_refl _) _).drew
  generalize (w.alloc (.cells #[.int .i64 0, .int .i64 0, .int .i64 0, .int .i64 0] 39)).drew = wa at *
  have HX : Hid (∀ x : Int, ∃ y : Int, 0 ≤ y ∧ y ≤ m ∧ wrap64 ((IntKind.u64.wrap x).tmod ((m : Int) + 1)) = y) := fun x => by
    have h1 : 0 ≤ IntKind.u64.wrap x := by rw [IntKind.wrap_u64]; omega
    have h2 := Int.emod_nonneg (IntKind.u64.wrap x) (by omega : (m : Int) + 1 ≠ 0)
    have h3 := Int.emod_lt_of_pos (IntKind.u64.wrap x) (by omega : (0 : Int) < (m : Int) + 1)
    rw [Int.tmod_eq_emod_of_nonneg h1, IntWalk.wrap64_in _ (by omega)]
    exact ⟨_, h2, by omega, rfl⟩
  have hd : (((m : Int) + 1) == 0) = false := by simp; omega
  go_loopw [45] (fun v wr => ∃ (i : Nat) (q0 q1 q2 q3 : Int), i ≤ 4 ∧ v = .int .i64 (i : Int) ∧ wr.heap[w.heap.size]? = some (.cells #[.int .i64 q0, .int .i64 q1, .int .i64 q2, .int .i64 q3] 39 (0, 0)) ∧ Srt m i q0 q1 q2 q3 ∧ Below w.heap.size w wr) (fun v _ => 4 - (intOf v).toNat)
  case atStart => exact ⟨0, 0, 0, 0, 0, by omega, rfl, H39.out, ⟨by omega, by omega, by omega, by omega⟩, HBE0.out⟩
  case round =>
    clear H39 HBE0
    obtain ⟨i, q0, q1, q2, q3, hi, rfl, hrow, hsrt, hbel⟩ := hrel
    have HR : Hid (wr.heap[w.heap.size]? = some (.cells #[.int .i64 q0, .int .i64 q1, .int .i64 q2, .int .i64 q3] 39 (0, 0))) := hrow
    have HS : Hid (Srt m i q0 q1 q2 q3) := hsrt
    have HBE : Hid (Below w.heap.size w wr) := hbel
    clear hrow hsrt hbel
    by_cases h4 : i < 4
    · have hi4 : (i : Int) < 4 := by omega
      clear hi
      obtain ⟨xi, hix⟩ : ∃ xi : Int, ∀ W, (Instr.index 39 (.agg #[.int .i64 a3, .int .i64 a4, .int .i64 a5, .int .i64 a6]) (.int .i64 (i : Int))).run Try.prog W = .ok (.int .i64 xi) W := pick4 a3 a4 a5 a6 i h4
      obtain ⟨y, hy0, hy1, ek⟩ := HX.out xi
      obtain ⟨qi, c0⟩ : ∃ qi : Int, wr.cell? ⟨w.heap.size, i, none⟩ = some (.int .i64 qi) := cell4 q0 q1 q2 q3 i h4 HR.out
      have f0 : wr.frozen? ⟨w.heap.size, i, none⟩ = false := by simp [World.frozen?, HR.out]
      go_wp2_with fail
      obtain ⟨s0, s1, s2, s3, hs1, hs2⟩ := put4 (m := m) i h4 hy0 hy1 HR.out HS.out
      have HR1 : Hid ((wr.setCell ⟨w.heap.size, i, none⟩ (.int .i64 y)).heap[w.heap.size]? = some (.cells #[.int .i64 s0, .int .i64 s1, .int .i64 s2, .int .i64 s3] 39 (0, 0))) := hs1
      have HI1 : Hid (Ins m i i s0 s1 s2 s3) := hs2
      have HB1' : Hid (Below w.heap.size w (wr.setCell ⟨w.heap.size, i, none⟩ (.int .i64 y))) := HBE.out.setCell (Nat.le_refl _) _
      generalize wr.setCell ⟨w.heap.size, i, none⟩ (.int .i64 y) = wb at *
      clear hix c0 f0 ek HR HS HBE hs1 hs2
      go_loopw [18] (fun v wq => ∃ (k : Nat) (q0 q1 q2 q3 : Int), k ≤ i ∧ v = .int .i64 (k : Int) ∧ wq.heap[w.heap.size]? = some (.cells #[.int .i64 q0, .int .i64 q1, .int .i64 q2, .int .i64 q3] 39 (0, 0)) ∧ Ins m i k q0 q1 q2 q3 ∧ Below w.heap.size w wq) (fun v _ => (intOf v).toNat)
      case atStart => exact ⟨i, s0, s1, s2, s3, by omega, by simp, HR1.out, HI1.out, HB1'.out⟩
      case round =>
        as_aux_lemma =>
            clear HR1 HI1 HB1'
            obtain ⟨k, r0, r1, r2, r3, hk, rfl, hrow, hins, hbel⟩ := hrel
            have HR : Hid (wr.heap[w.heap.size]? = some (.cells #[.int .i64 r0, .int .i64 r1, .int .i64 r2, .int .i64 r3] 39 (0, 0))) := hrow
            have HI : Hid (Ins m i k r0 r1 r2 r3) := hins
            have HBE : Hid (Below w.heap.size w wr) := hbel
            clear hrow hins hbel
            have hc : k = 0 ∨ k = 1 ∨ k = 2 ∨ k = 3 := by omega
            rcases hc with rfl | rfl | rfl | rfl
            · go_wp2_with fail
              go_quiet (fail)
              go_wp2_with fail
              exact ⟨⟨i + 1, r0, r1, r2, r3, by omega, by go_num, HR.out, by have := HI.out; unfold Ins at this; unfold Srt; omega, below_drewN HBE.out nq⟩, by simp [intOf]; omega⟩
            · have c1 : wr.cell? ⟨w.heap.size, 0, none⟩ = some (.int .i64 r0) := (cell_of_row _ _ 0 _ _ HR.out).trans rfl
              have c2 : wr.cell? ⟨w.heap.size, 1, none⟩ = some (.int .i64 r1) := (cell_of_row _ _ 1 _ _ HR.out).trans rfl
              by_cases hgt : r1 < r0
              · go_wp2_with fail
                go_quiet (fail)
                have HRD : Hid ((wr.drewN nq).heap[w.heap.size]? = some (.cells #[.int .i64 r0, .int .i64 r1, .int .i64 r2, .int .i64 r3] 39 (0, 0))) := HR.out
                have HBD : Hid (Below w.heap.size w (wr.drewN nq)) := below_drewN HBE.out nq
                generalize wr.drewN nq = wd at *
                clear c1 c2 HR HBE
                have c1 : wd.cell? ⟨w.heap.size, 0, none⟩ = some (.int .i64 r0) := (cell_of_row _ _ 0 _ _ HRD.out).trans rfl
                have c2 : wd.cell? ⟨w.heap.size, 1, none⟩ = some (.int .i64 r1) := (cell_of_row _ _ 1 _ _ HRD.out).trans rfl
                have f1 : wd.frozen? ⟨w.heap.size, 0, none⟩ = false := by simp [World.frozen?, HRD.out]
                have f2 : wd.frozen? ⟨w.heap.size, 1, none⟩ = false := by simp [World.frozen?, HRD.out]
                go_wp2_with fail
                apply wp_via
                · go_region
                  all_goals exact ⟨rfl, rfl, rfl⟩
                clear c1 c2 f1 f2
                have HR2 : Hid (((wd.setCell ⟨w.heap.size, 0, none⟩ (.int .i64 r1)).setCell ⟨w.heap.size, 1, none⟩ (.int .i64 r0)).drew.heap[w.heap.size]? = some (.cells #[.int .i64 r1, .int .i64 r0, .int .i64 r2, .int .i64 r3] 39 (0, 0))) := (heap_setCell_same _ w.heap.size 1 _ _ _ ((heap_setCell_same wd w.heap.size 0 _ _ _ HRD.out).trans rfl)).trans rfl
                go_wp2_with fail
                exact ⟨⟨0, r1, r0, r2, r3, by omega, by go_num, HR2.out, by have := HI.out; unfold Ins at this ⊢; omega, ((HBD.out.setCell (Nat.le_refl _) _).setCell (Nat.le_refl _) _).drew⟩, by simp [intOf]⟩
              · have hng : ¬ r1 < r0 := hgt
                go_wp2_with fail
                go_quiet (fail)
                go_wp2_with fail
                exact ⟨⟨i + 1, r0, r1, r2, r3, by omega, by go_num, HR.out, by have := HI.out; unfold Ins at this; unfold Srt; omega, below_drewN HBE.out nq⟩, by simp [intOf]; omega⟩
            · have c1 : wr.cell? ⟨w.heap.size, 1, none⟩ = some (.int .i64 r1) := (cell_of_row _ _ 1 _ _ HR.out).trans rfl
              have c2 : wr.cell? ⟨w.heap.size, 2, none⟩ = some (.int .i64 r2) := (cell_of_row _ _ 2 _ _ HR.out).trans rfl
              by_cases hgt : r2 < r1
              · go_wp2_with fail
                go_quiet (fail)
                have HRD : Hid ((wr.drewN nq).heap[w.heap.size]? = some (.cells #[.int .i64 r0, .int .i64 r1, .int .i64 r2, .int .i64 r3] 39 (0, 0))) := HR.out
                have HBD : Hid (Below w.heap.size w (wr.drewN nq)) := below_drewN HBE.out nq
                generalize wr.drewN nq = wd at *
                clear c1 c2 HR HBE
                have c1 : wd.cell? ⟨w.heap.size, 1, none⟩ = some (.int .i64 r1) := (cell_of_row _ _ 1 _ _ HRD.out).trans rfl
                have c2 : wd.cell? ⟨w.heap.size, 2, none⟩ = some (.int .i64 r2) := (cell_of_row _ _ 2 _ _ HRD.out).trans rfl
                have f1 : wd.frozen? ⟨w.heap.size, 1, none⟩ = false := by simp [World.frozen?, HRD.out]
                have f2 : wd.frozen? ⟨w.heap.size, 2, none⟩ = false := by simp [World.frozen?, HRD.out]
                go_wp2_with fail
                apply wp_via
                · go_region
                  all_goals exact ⟨rfl, rfl, rfl⟩
                clear c1 c2 f1 f2
                have HR2 : Hid (((wd.setCell ⟨w.heap.size, 1, none⟩ (.int .i64 r2)).setCell ⟨w.heap.size, 2, none⟩ (.int .i64 r1)).drew.heap[w.heap.size]? = some (.cells #[.int .i64 r0, .int .i64 r2, .int .i64 r1, .int .i64 r3] 39 (0, 0))) := (heap_setCell_same _ w.heap.size 2 _ _ _ ((heap_setCell_same wd w.heap.size 1 _ _ _ HRD.out).trans rfl)).trans rfl
                go_wp2_with fail
                exact ⟨⟨1, r0, r2, r1, r3, by omega, by go_num, HR2.out, by have := HI.out; unfold Ins at this ⊢; omega, ((HBD.out.setCell (Nat.le_refl _) _).setCell (Nat.le_refl _) _).drew⟩, by simp [intOf]⟩
              · have hng : ¬ r2 < r1 := hgt
                go_wp2_with fail
                go_quiet (fail)
                go_wp2_with fail
                exact ⟨⟨i + 1, r0, r1, r2, r3, by omega, by go_num, HR.out, by have := HI.out; unfold Ins at this; unfold Srt; omega, below_drewN HBE.out nq⟩, by simp [intOf]; omega⟩
            · have c1 : wr.cell? ⟨w.heap.size, 2, none⟩ = some (.int .i64 r2) := (cell_of_row _ _ 2 _ _ HR.out).trans rfl
              have c2 : wr.cell? ⟨w.heap.size, 3, none⟩ = some (.int .i64 r3) := (cell_of_row _ _ 3 _ _ HR.out).trans rfl
              by_cases hgt : r3 < r2
              · go_wp2_with fail
                go_quiet (fail)
                have HRD : Hid ((wr.drewN nq).heap[w.heap.size]? = some (.cells #[.int .i64 r0, .int .i64 r1, .int .i64 r2, .int .i64 r3] 39 (0, 0))) := HR.out
                have HBD : Hid (Below w.heap.size w (wr.drewN nq)) := below_drewN HBE.out nq
                generalize wr.drewN nq = wd at *
                clear c1 c2 HR HBE
                have c1 : wd.cell? ⟨w.heap.size, 2, none⟩ = some (.int .i64 r2) := (cell_of_row _ _ 2 _ _ HRD.out).trans rfl
                have c2 : wd.cell? ⟨w.heap.size, 3, none⟩ = some (.int .i64 r3) := (cell_of_row _ _ 3 _ _ HRD.out).trans rfl
                have f1 : wd.frozen? ⟨w.heap.size, 2, none⟩ = false := by simp [World.frozen?, HRD.out]
                have f2 : wd.frozen? ⟨w.heap.size, 3, none⟩ = false := by simp [World.frozen?, HRD.out]
                go_wp2_with fail
                apply wp_via
                · go_region
                  all_goals exact ⟨rfl, rfl, rfl⟩
                clear c1 c2 f1 f2
                have HR2 : Hid (((wd.setCell ⟨w.heap.size, 2, none⟩ (.int .i64 r3)).setCell ⟨w.heap.size, 3, none⟩ (.int .i64 r2)).drew.heap[w.heap.size]? = some (.cells #[.int .i64 r0, .int .i64 r1, .int .i64 r3, .int .i64 r2] 39 (0, 0))) := (heap_setCell_same _ w.heap.size 3 _ _ _ ((heap_setCell_same wd w.heap.size 2 _ _ _ HRD.out).trans rfl)).trans rfl
                go_wp2_with fail
                exact ⟨⟨2, r0, r1, r3, r2, by omega, by go_num, HR2.out, by have := HI.out; unfold Ins at this ⊢; omega, ((HBD.out.setCell (Nat.le_refl _) _).setCell (Nat.le_refl _) _).drew⟩, by simp [intOf]⟩
              · have hng : ¬ r3 < r2 := hgt
                go_wp2_with fail
                go_quiet (fail)
                go_wp2_with fail
                exact ⟨⟨i + 1, r0, r1, r2, r3, by omega, by go_num, HR.out, by have := HI.out; unfold Ins at this; unfold Srt; omega, below_drewN HBE.out nq⟩, by simp [intOf]; omega⟩
    · obtain rfl : i = 4 := by omega
      have hq := HS.out
      unfold Srt at hq
      obtain ⟨p0, rfl⟩ := Int.eq_ofNat_of_zero_le (a := q0) (by omega)
      obtain ⟨p1, rfl⟩ := Int.eq_ofNat_of_zero_le (a := q1) (by omega)
      obtain ⟨p2, rfl⟩ := Int.eq_ofNat_of_zero_le (a := q2) (by omega)
      obtain ⟨p3, rfl⟩ := Int.eq_ofNat_of_zero_le (a := q3) (by omega)
      have g01 : p0 ≤ p1 := by omega
      have g12 : p1 ≤ p2 := by omega
      have g23 : p2 ≤ p3 := by omega
      have g3m : p3 ≤ m := by omega
      have c0 : wr.cell? ⟨w.heap.size, 0, none⟩ = some (.int .i64 (p0 : Int)) := (cell_of_row _ _ 0 _ _ HR.out).trans rfl
      have c1 : wr.cell? ⟨w.heap.size, 1, none⟩ = some (.int .i64 (p1 : Int)) := (cell_of_row _ _ 1 _ _ HR.out).trans rfl
      have c2 : wr.cell? ⟨w.heap.size, 2, none⟩ = some (.int .i64 (p2 : Int)) := (cell_of_row _ _ 2 _ _ HR.out).trans rfl
      have c3 : wr.cell? ⟨w.heap.size, 3, none⟩ = some (.int .i64 (p3 : Int)) := (cell_of_row _ _ 3 _ _ HR.out).trans rfl
      clear hq HS h4 hi hd HX
      go_wp2_with fail
      have n0 := World.new_ne wr ⟨w.heap.size, 0, none⟩ c0
      have n1 := World.new_ne wr ⟨w.heap.size, 1, none⟩ c1
      have n2 := World.new_ne wr ⟨w.heap.size, 2, none⟩ c2
      have n3 := World.new_ne wr ⟨w.heap.size, 3, none⟩ c3
      apply wp_via_ex (R := fun x y W => W.heap[x]? = some (.cells #[.int .i64 (p0 : Int), .int .i64 (p1 : Int), .slice a1 m1 cap1] 26 (0, 0)) ∧ W.heap[y]? = some (.cells #[.int .i64 (p2 : Int), .int .i64 (p3 : Int), .slice a2 m2 cap2] 26 (0, 0)) ∧ W.heap[w.heap.size]? = some (.cells #[.int .i64 (p0 : Int), .int .i64 (p1 : Int), .int .i64 (p2 : Int), .int .i64 (p3 : Int)] 39 (0, 0)) ∧ Below w.heap.size w W)
      · go_region_held3 (fun W => W.cell? ⟨w.heap.size, 0, none⟩ = some (.int .i64 (p0 : Int)) ∧ W.cell? ⟨w.heap.size, 1, none⟩ = some (.int .i64 (p1 : Int)) ∧ W.cell? ⟨w.heap.size, 2, none⟩ = some (.int .i64 (p2 : Int)) ∧ W.cell? ⟨w.heap.size, 3, none⟩ = some (.int .i64 (p3 : Int)))
          (first | go_keep | (exact ⟨c0, c1, c2, c3⟩) | assumption) (fail)
        all_goals
          have hlt := World.block_lt_of_cell? wr _ c0
          have hlt' : w.heap.size < wr.heap.size := hlt
          obtain ⟨b1, hb1⟩ : ∃ b, b = wr.heap.size := ⟨_, rfl⟩
          obtain ⟨b2, hb2⟩ : ∃ b, b = wr.heap.size + 1 := ⟨_, rfl⟩
          rw [← hb2, ← hb1]
        · refine ⟨rfl, b1, b2, rfl, ?_, ?_, ?_, ?_⟩
          · rw [hb1]; exact (Below.heap_alloc _ _ _ (by simp)).trans (heap_alloc_new wr _)
          · rw [hb2]; exact new_two wr _ _
          · exact (Below.heap_alloc _ _ _ (by simp; omega)).trans ((Below.heap_alloc _ _ _ (by omega)).trans HR.out)
          · exact ((HBE.out.alloc HBE.out.size _).alloc (by simp; have := HBE.out.size; omega) _).drew
        · refine ⟨rfl, b2, b1, rfl, ?_, ?_, ?_, ?_⟩
          · rw [hb2]; exact new_two wr _ _
          · rw [hb1]; exact (Below.heap_alloc _ _ _ (by simp)).trans (heap_alloc_new wr _)
          · exact (Below.heap_alloc _ _ _ (by simp; omega)).trans ((Below.heap_alloc _ _ _ (by omega)).trans HR.out)
          · exact ((HBE.out.alloc HBE.out.size _).alloc (by simp; have := HBE.out.size; omega) _).drew
      intro bx by' W4 ⟨hx, hy, hp, hbw⟩
      clear c0 c1 c2 c3 n0 n1 n2 n3 HR HBE
      have HXR : Hid (W4.heap[bx]? = some (.cells #[.int .i64 (p0 : Int), .int .i64 (p1 : Int), .slice a1 m1 cap1] 26 (0, 0))) := hx
      have HYR : Hid (W4.heap[by']? = some (.cells #[.int .i64 (p2 : Int), .int .i64 (p3 : Int), .slice a2 m2 cap2] 26 (0, 0))) := hy
      have HPR : Hid (W4.heap[w.heap.size]? = some (.cells #[.int .i64 (p0 : Int), .int .i64 (p1 : Int), .int .i64 (p2 : Int), .int .i64 (p3 : Int)] 39 (0, 0))) := hp
      have HB4 : Hid (Below w.heap.size w W4) := hbw
      clear hx hy hp hbw
      have x0 : W4.cell? ⟨bx, 0, none⟩ = some (.int .i64 (p0 : Int)) := (cell_of_row _ _ 0 _ _ HXR.out).trans rfl
      have x1 : W4.cell? ⟨bx, 1, none⟩ = some (.int .i64 (p1 : Int)) := (cell_of_row _ _ 1 _ _ HXR.out).trans rfl
      have x2 : W4.cell? ⟨bx, 2, none⟩ = some (.slice a1 m1 cap1) := (cell_of_row _ _ 2 _ _ HXR.out).trans rfl
      have y0 : W4.cell? ⟨by', 0, none⟩ = some (.int .i64 (p2 : Int)) := (cell_of_row _ _ 0 _ _ HYR.out).trans rfl
      have y1 : W4.cell? ⟨by', 1, none⟩ = some (.int .i64 (p3 : Int)) := (cell_of_row _ _ 1 _ _ HYR.out).trans rfl
      have y2 : W4.cell? ⟨by', 2, none⟩ = some (.slice a2 m2 cap2) := (cell_of_row _ _ 2 _ _ HYR.out).trans rfl
      go_wp2_with fail
      have HBL : Hid (base.length = m) := HB0.out.1
      have rb : ∀ x ∈ base, 0 ≤ x ∧ x ≤ 255 := getD_bytes4 HB0.out
      have r1 : ∀ x ∈ one, 0 ≤ x ∧ x ≤ 255 := getD_bytes4 HB1.out
      have r2 : ∀ x ∈ two, 0 ≤ x ∧ x ≤ 255 := getD_bytes4 HB2.out
      have HL1 : Hid (one.length = m1) := HB1.out.1
      have HL2 : Hid (two.length = m2) := HB2.out.1
      obtain ⟨BO, hBO⟩ : ∃ l, base.take p0 ++ one ++ sub base p1 (p2 - p1) ++ two ++ base.drop p3 = l := ⟨_, rfl⟩
      obtain ⟨HA, hHA⟩ : ∃ l, base.take p2 ++ two ++ base.drop p3 = l := ⟨_, rfl⟩
      have HRB : Hid (∀ j : Nat, 0 ≤ BO[j]?.getD 0 ∧ BO[j]?.getD 0 ≤ 255) := range_of_mem (fun x hx => by
        rw [← hBO] at hx
        simp only [List.mem_append] at hx
        rcases hx with (((h | h) | h) | h) | h
        · exact rb x (List.mem_of_mem_take h)
        · exact r1 x h
        · exact rb x (List.mem_of_mem_drop (List.mem_of_mem_take h))
        · exact r2 x h
        · exact rb x (List.mem_of_mem_drop h))
      have HRH : Hid (∀ j : Nat, 0 ≤ HA[j]?.getD 0 ∧ HA[j]?.getD 0 ≤ 255) := range_of_mem (fun x hx => by
        rw [← hHA] at hx
        simp only [List.mem_append] at hx
        rcases hx with (h | h) | h
        · exact rb x (List.mem_of_mem_take h)
        · exact r2 x h
        · exact rb x (List.mem_of_mem_drop h))
      have HHL : Hid (HA.length ≤ 1200 ∧ p1 ≤ HA.length) := by
        have h1 := HBL.out; have h2 := HL2.out
        show _ ∧ _
        rw [← hHA]; simp; omega
      have HPR2 : Hid (∀ j : Nat, 0 ≤ (printOf [⟨p0, p1, one⟩, ⟨p2, p3, two⟩])[j]?.getD 0 ∧ (printOf [⟨p0, p1, one⟩, ⟨p2, p3, two⟩])[j]?.getD 0 ≤ 255) := print_range _ (fun h hh => by
        simp only [List.mem_cons, List.not_mem_nil, or_false] at hh
        rcases hh with rfl | rfl
        · exact r1
        · exact r2)
      have HPRY : Hid (∀ j : Nat, 0 ≤ (printOf [⟨p2, p3, two⟩])[j]?.getD 0 ∧ (printOf [⟨p2, p3, two⟩])[j]?.getD 0 ≤ 255) := print_range _ (fun h hh => by
        simp only [List.mem_cons, List.not_mem_nil, or_false] at hh
        rcases hh with rfl
        exact r2)
      have HPRX : Hid (∀ j : Nat, 0 ≤ (printOf [⟨p0, p1, one⟩])[j]?.getD 0 ∧ (printOf [⟨p0, p1, one⟩])[j]?.getD 0 ≤ 255) := print_range _ (fun h hh => by
        simp only [List.mem_cons, List.not_mem_nil, or_false] at hh
        rcases hh with rfl
        exact r1)
      have HA2 : Hid (applyOf base (printOf [⟨p0, p1, one⟩, ⟨p2, p3, two⟩]) 1099511627776 = (0, BO)) := by
        have h1 := HBL.out; have h2 := HL1.out; have h3 := HL2.out
        rw [← hBO]; exact apply_two base one two p0 p1 p2 p3 _ g01 g12 g23 (by omega) (by omega) (by omega) (by omega) (by omega)
      have HAY : Hid (applyOf base (printOf [⟨p2, p3, two⟩]) 1099511627776 = (0, HA)) := by
        have h1 := HBL.out; have h2 := HL1.out; have h3 := HL2.out
        rw [← hHA]; exact apply_one base two p2 p3 _ g23 (by omega) (by omega) (by omega) (by omega)
      have HAX : Hid (applyOf HA (printOf [⟨p0, p1, one⟩]) 1099511627776 = (0, BO)) := by
        have h1 := HBL.out; have h2 := HL1.out; have h3 := HL2.out
        show _ = _
        rw [apply_one HA one p0 p1 _ g01 HHL.out.2 (by have := HHL.out.1; omega) (by omega) (by omega), ← hHA, two_is base one two p0 p1 p2 p3 g01 g12 g23 (by omega), hBO]
      have HST : Hid (strOfNums (base.take p0) ++ strOfNums one ++ strOfNums (sub base p1 (p2 - p1)) ++ strOfNums two ++ strOfNums (base.drop p3) = strOfNums BO) := by
        show _ = _
        rw [str_append, str_append, str_append, str_append, hBO]
      clear rb r1 r2 hBO hHA
      refine (print_row2 W4 p0 p1 p2 p3 a1 m1 cap1 one a2 m2 cap2 two (by omega) (by omega) (by omega) (by omega) (HB1.out.below HB4.out) (by omega) hm1c HN1.out (HB2.out.below HB4.out) (by omega) hm2c HN2.out).mono ?_
      rintro e w5 ⟨⟨pa, pc, rfl, ho5⟩, hb5⟩
      have HW5 : Hid (Below w.heap.size w w5) := HB4.out.trans (hb5.mono HB4.out.size)
      have HP5 : Hid (Bytes w5 pa (24 + m1 + m2) (printOf [⟨p0, p1, one⟩, ⟨p2, p3, two⟩])) := ho5.bytes HPR2.out
      have HC5 : Hid (24 + m1 + m2 ≤ pc) := own_cap ho5
      have HN5 : Hid (pa = none → pc = 0) := nil_of_own ho5
      have HK5 : Hid (Below W4.heap.size W4 w5) := hb5
      clear ho5 hb5 x0 x1 x2 y0 y1 y2
      obtain ⟨np, hnp⟩ : ∃ k, 24 + m1 + m2 = k := ⟨_, rfl⟩
      have hnpl : np ≤ 1000 := by omega
      rw [hnp] at HP5 HC5 ⊢
      clear hnp
      go_wp2_with fail
      refine (apply_any a0 m cap0 base pa np pc _ 1099511627776 w5 hmc HN0.out (by omega) (HB0.out.below HW5.out) HC5.out HN5.out (by omega) HP5.out).mono ?_
      rw [HA2.out]
      rintro e w6 ⟨⟨v1, rfl, hv1⟩, hb6⟩
      have HK6 : Hid (Below W4.heap.size W4 w6) := HK5.out.trans (hb6.mono HK5.out.size)
      have HW6 : Hid (Below w.heap.size w w6) := HW5.out.trans (hb6.mono HW5.out.size)
      obtain ⟨nb, hnb⟩ : ∃ k, BO.length = k := ⟨_, rfl⟩
      rw [hnb] at hv1
      obtain ⟨va, vc, rfl, -, -, -⟩ := hv1.shape
      have HV1 : Hid (Bytes w6 va nb BO) := hv1.bytes HRB.out
      clear hv1 hb6
      have bylt : by' < W4.heap.size := (Array.getElem?_eq_some_iff.1 HYR.out).1
      have bxlt : bx < W4.heap.size := (Array.getElem?_eq_some_iff.1 HXR.out).1
      have HYC : Hid (∀ W, Below W4.heap.size W4 W → W.cell? ⟨by', 0, none⟩ = some (.int .i64 (p2 : Int)) ∧ W.cell? ⟨by', 1, none⟩ = some (.int .i64 (p3 : Int)) ∧ W.cell? ⟨by', 2, none⟩ = some (.slice a2 m2 cap2)) := fun W hW => ⟨(hW.cell (p := ⟨by', 0, none⟩) bylt).trans ((cell_of_row _ _ 0 _ _ HYR.out).trans rfl), (hW.cell (p := ⟨by', 1, none⟩) bylt).trans ((cell_of_row _ _ 1 _ _ HYR.out).trans rfl), (hW.cell (p := ⟨by', 2, none⟩) bylt).trans ((cell_of_row _ _ 2 _ _ HYR.out).trans rfl)⟩
      have HXC : Hid (∀ W, Below W4.heap.size W4 W → W.cell? ⟨bx, 0, none⟩ = some (.int .i64 (p0 : Int)) ∧ W.cell? ⟨bx, 1, none⟩ = some (.int .i64 (p1 : Int)) ∧ W.cell? ⟨bx, 2, none⟩ = some (.slice a1 m1 cap1)) := fun W hW => ⟨(hW.cell (p := ⟨bx, 0, none⟩) bxlt).trans ((cell_of_row _ _ 0 _ _ HXR.out).trans rfl), (hW.cell (p := ⟨bx, 1, none⟩) bxlt).trans ((cell_of_row _ _ 1 _ _ HXR.out).trans rfl), (hW.cell (p := ⟨bx, 2, none⟩) bxlt).trans ((cell_of_row _ _ 2 _ _ HXR.out).trans rfl)⟩
      obtain ⟨y0, y1, y2⟩ := HYC.out w6 HK6.out
      go_wp2_with fail
      refine (print_row1 w6 p2 p3 a2 m2 cap2 two (by omega) (by omega) (HB2.out.below HW6.out) (by omega) hm2c HN2.out).mono ?_
      rintro e w7 ⟨⟨qa, qc, rfl, ho7⟩, hb7⟩
      have HW7 : Hid (Below w.heap.size w w7) := HW6.out.trans (hb7.mono HW6.out.size)
      have HK7 : Hid (Below W4.heap.size W4 w7) := HK6.out.trans (hb7.mono HK6.out.size)
      have HP7 : Hid (Bytes w7 qa (12 + m2) (printOf [⟨p2, p3, two⟩])) := ho7.bytes HPRY.out
      have HC7 : Hid (12 + m2 ≤ qc) := own_cap ho7
      have HN7 : Hid (qa = none → qc = 0) := nil_of_own ho7
      have HV7 : Hid (Bytes w7 va nb BO) := HV1.out.below hb7
      clear ho7 hb7 y0 y1 y2
      obtain ⟨nq7, hnq⟩ : ∃ k, 12 + m2 = k := ⟨_, rfl⟩
      have hnql : nq7 ≤ 1000 := by omega
      rw [hnq] at HP7 HC7 ⊢
      clear hnq
      go_wp2_with fail
      refine (apply_any a0 m cap0 base qa nq7 qc _ 1099511627776 w7 hmc HN0.out (by omega) (HB0.out.below HW7.out) HC7.out HN7.out (by omega) HP7.out).mono ?_
      rw [HAY.out]
      rintro e w8 ⟨⟨v2, rfl, hv2⟩, hb8⟩
      have HK8 : Hid (Below W4.heap.size W4 w8) := HK7.out.trans (hb8.mono HK7.out.size)
      have HW8 : Hid (Below w.heap.size w w8) := HW7.out.trans (hb8.mono HW7.out.size)
      have HV8 : Hid (Bytes w8 va nb BO) := HV7.out.below hb8
      obtain ⟨nh, hnh⟩ : ∃ k, HA.length = k := ⟨_, rfl⟩
      have hnhl : nh ≤ 1200 := by have := HHL.out.1; omega
      rw [hnh] at hv2
      obtain ⟨ha, hc, rfl, hhc, hhn, -⟩ := hv2.shape
      have HH8 : Hid (Bytes w8 ha nh HA) := hv2.bytes HRH.out
      have HHN : Hid (ha = none → hc = 0) := hhn
      clear hv2 hb8 hnh hhn
      obtain ⟨x0, x1, x2⟩ := HXC.out w8 HK8.out
      go_wp2_with fail
      refine (print_row1 w8 p0 p1 a1 m1 cap1 one (by omega) (by omega) (HB1.out.below HW8.out) (by omega) hm1c HN1.out).mono ?_
      rintro e w9 ⟨⟨ra, rc, rfl, ho9⟩, hb9⟩
      have HW9 : Hid (Below w.heap.size w w9) := HW8.out.trans (hb9.mono HW8.out.size)
      have HK9 : Hid (Below W4.heap.size W4 w9) := HK8.out.trans (hb9.mono HK8.out.size)
      have HP9 : Hid (Bytes w9 ra (12 + m1) (printOf [⟨p0, p1, one⟩])) := ho9.bytes HPRX.out
      have HC9 : Hid (12 + m1 ≤ rc) := own_cap ho9
      have HN9 : Hid (ra = none → rc = 0) := nil_of_own ho9
      have HV9 : Hid (Bytes w9 va nb BO) := HV8.out.below hb9
      have HH9 : Hid (Bytes w9 ha nh HA) := HH8.out.below hb9
      clear ho9 hb9 x0 x1 x2
      obtain ⟨nr, hnr⟩ : ∃ k, 12 + m1 = k := ⟨_, rfl⟩
      have hnrl : nr ≤ 1000 := by omega
      rw [hnr] at HP9 HC9 ⊢
      clear hnr
      go_wp2_with fail
      refine (apply_any ha nh hc HA ra nr rc _ 1099511627776 w9 hhc HHN.out (by omega) HH9.out HC9.out HN9.out (by omega) HP9.out).mono ?_
      rw [HAX.out]
      rintro e w10 ⟨⟨v3, rfl, hv3⟩, hb10⟩
      have HW10 : Hid (Below w.heap.size w w10) := HW9.out.trans (hb10.mono HW9.out.size)
      have HK10 : Hid (Below W4.heap.size W4 w10) := HK9.out.trans (hb10.mono HK9.out.size)
      have HV10 : Hid (Bytes w10 va nb BO) := HV9.out.below hb10
      rw [hnb] at hv3
      obtain ⟨za, zc, rfl, -, -, -⟩ := hv3.shape
      have HZ10 : Hid (Bytes w10 za nb BO) := hv3.bytes HRB.out
      clear hv3 hb10 hnb
      have plt : w.heap.size < W4.heap.size := (Array.getElem?_eq_some_iff.1 HPR.out).1
      have c0 : w10.cell? ⟨w.heap.size, 0, none⟩ = some (.int .i64 (p0 : Int)) := (HK10.out.cell (p := ⟨w.heap.size, 0, none⟩) plt).trans ((cell_of_row _ _ 0 _ _ HPR.out).trans rfl)
      have c1 : w10.cell? ⟨w.heap.size, 1, none⟩ = some (.int .i64 (p1 : Int)) := (HK10.out.cell (p := ⟨w.heap.size, 1, none⟩) plt).trans ((cell_of_row _ _ 1 _ _ HPR.out).trans rfl)
      have c2 : w10.cell? ⟨w.heap.size, 2, none⟩ = some (.int .i64 (p2 : Int)) := (HK10.out.cell (p := ⟨w.heap.size, 2, none⟩) plt).trans ((cell_of_row _ _ 2 _ _ HPR.out).trans rfl)
      have c3 : w10.cell? ⟨w.heap.size, 3, none⟩ = some (.int .i64 (p3 : Int)) := (HK10.out.cell (p := ⟨w.heap.size, 3, none⟩) plt).trans ((cell_of_row _ _ 3 _ _ HPR.out).trans rfl)
      have HT0 : Hid (∀ W, Below w.heap.size w W → (convert 22 9 (.slice a0 p0 cap0)).run Try.prog W = .ok (.string (strOfNums (base.take p0))) W) := fun W hW => by
        have := (HB0.out.first p0).below hW
        rw [show min m p0 = p0 by omega] at this
        exact text_run W a0 p0 cap0 _ this
      have HT1 : Hid (∀ W, Below w.heap.size w W → (convert 22 9 (.slice a1 m1 cap1)).run Try.prog W = .ok (.string (strOfNums one)) W) := fun W hW => text_run W a1 m1 cap1 _ (HB1.out.below hW)
      have HT2 : Hid (∀ W, Below w.heap.size w W → (convert 22 9 (.slice (subA a0 cap0 p1) (p2 - p1) (cap0 - p1))).run Try.prog W = .ok (.string (strOfNums (sub base p1 (p2 - p1)))) W) := fun W hW => text_run W _ _ _ _ ((HB0.out.part cap0 p1 p2 g12 (by omega) hmc).below hW)
      have HT3 : Hid (∀ W, Below w.heap.size w W → (convert 22 9 (.slice a2 m2 cap2)).run Try.prog W = .ok (.string (strOfNums two)) W) := fun W hW => text_run W a2 m2 cap2 _ (HB2.out.below hW)
      have HT4 : Hid (∀ W, Below w.heap.size w W → (convert 22 9 (.slice (subA a0 cap0 p3) (m - p3) (cap0 - p3))).run Try.prog W = .ok (.string (strOfNums (base.drop p3))) W) := fun W hW => by
        have := (HB0.out.part cap0 p3 m g3m (Nat.le_refl _) hmc).below hW
        rw [List.take_of_length_le (by simp; have := HBL.out; omega)] at this
        exact text_run W _ _ _ _ this
      have z0 : (strOfNums (base.take p0)).size ≤ 1000 := by rw [strOfNums_size]; simp; omega
      have z1 : (strOfNums one).size ≤ 100 := by rw [strOfNums_size]; have := HL1.out; omega
      have z2 : (strOfNums (sub base p1 (p2 - p1))).size ≤ 1000 := by rw [strOfNums_size]; simp [sub]; omega
      have z3 : (strOfNums two).size ≤ 100 := by rw [strOfNums_size]; have := HL2.out; omega
      have z4 : (strOfNums (base.drop p3)).size ≤ 1000 := by rw [strOfNums_size]; simp; have := HBL.out; omega
      have k1 : ∀ W, (Instr.sliceAt 22 (.slice a0 m cap0) none (some (.int .i64 (p0 : Int))) none).run Try.prog W = .ok (.slice a0 p0 cap0) W := fun W => slice_to a0 m cap0 p0 (by omega) W
      have k2 : ∀ W, (Instr.sliceAt 22 (.slice a0 m cap0) (some (.int .i64 (p1 : Int))) (some (.int .i64 (p2 : Int))) none).run Try.prog W = .ok (.slice (subA a0 cap0 p1) (p2 - p1) (cap0 - p1)) W := fun W => slice_sub a0 m cap0 p1 p2 g12 (by omega) W
      have k3 : ∀ W, (Instr.sliceAt 22 (.slice a0 m cap0) (some (.int .i64 (p3 : Int))) none none).run Try.prog W = .ok (.slice (subA a0 cap0 p3) (m - p3) (cap0 - p3)) W := fun W => slice_from a0 m cap0 p3 (by omega) (by omega) W
      generalize strOfNums (base.take p0) = S0 at *
      generalize strOfNums one = S1 at *
      generalize strOfNums (sub base p1 (p2 - p1)) = S2 at *
      generalize strOfNums two = S3 at *
      generalize strOfNums (base.drop p3) = S4 at *
      have e1 : S0.size + S1.size ≤ 9223372036854775807 := by omega
      have e2 : S0.size + S1.size + S2.size ≤ 9223372036854775807 := by omega
      have e3 : S0.size + S1.size + S2.size + S3.size ≤ 9223372036854775807 := by omega
      have e4 : S0.size + S1.size + S2.size + S3.size + S4.size ≤ 9223372036854775807 := by omega
      have t0 : ∀ n, (convert 22 9 (.slice a0 p0 cap0)).run Try.prog (w10.drewN n) = .ok (.string S0) (w10.drewN n) := fun n => HT0.out _ (below_drewN HW10.out n)
      have t1 : ∀ n, (convert 22 9 (.slice a1 m1 cap1)).run Try.prog (w10.drewN n) = .ok (.string S1) (w10.drewN n) := fun n => HT1.out _ (below_drewN HW10.out n)
      have t2 : ∀ n, (convert 22 9 (.slice (subA a0 cap0 p1) (p2 - p1) (cap0 - p1))).run Try.prog (w10.drewN n) = .ok (.string S2) (w10.drewN n) := fun n => HT2.out _ (below_drewN HW10.out n)
      have t3 : ∀ n, (convert 22 9 (.slice a2 m2 cap2)).run Try.prog (w10.drewN n) = .ok (.string S3) (w10.drewN n) := fun n => HT3.out _ (below_drewN HW10.out n)
      have t4 : ∀ n, (convert 22 9 (.slice (subA a0 cap0 p3) (m - p3) (cap0 - p3))).run Try.prog (w10.drewN n) = .ok (.string S4) (w10.drewN n) := fun n => HT4.out _ (below_drewN HW10.out n)
      clear HT0 HT1 HT2 HT3 HT4 HYC HXC HXR HYR HPR
      go_wp2_with fail
      go_quiet (fail)
      rw [HST.out]
      have HV11 : Hid (Bytes (w10.drewN nq) va nb BO) := HV10.out.below (below_drewN (Below.refl _ _) nq)
      have HZ11 : Hid (Bytes (w10.drewN nq) za nb BO) := HZ10.out.below (below_drewN (Below.refl _ _) nq)
      have HW11 : Hid (Below w.heap.size w (w10.drewN nq)) := below_drewN HW10.out nq
      clear t0 t1 t2 t3 t4 k1 k2 k3 c0 c1 c2 c3 HK10 HW10 HV10 HZ10 HST
      generalize w10.drewN nq = w11 at *
      go_wp2_with fail
      refine (known_any w11).mono ?_
      rintro e w12 ⟨rfl, hb12⟩
      have HB12 : Hid (Below w11.heap.size w11 w12) := hb12
      have u1 := text_run w12 va nb vc BO (HV11.out.below HB12.out)
      have u2 := text_run w12 za nb zc BO (HZ11.out.below HB12.out)
      clear hb12
      generalize strOfNums BO = SB at *
      go_wp2_with fail
      go_ret
      exact ⟨rfl, HW11.out.trans (HB12.out.mono HW11.out.size)⟩

/-! ### The row's step -/
set_option maxRecDepth 100000 in
theorem lifted (os : Os) (started : os.Started) (H : Type) (enc : TypeId × Value → H) :
    ReturnsInHanded {} Try.checked os 6 .any (Rows.patchPartsSpec.pre6 enc Try.prog Try.f6 Rows.patchPartsRow.domain false) (Rows.patchPartsSpec.post enc Try.prog Try.f6 false true false false) := by
  refine returnsInHanded_of_change (C := Try.checked) own started (by kernel_rfl) Try.func6
    (ChangeSpec.witness6 (enc := enc) (C := Try.checked) false ⟨#[], #[.slice none 0 0, .slice none 0 0, .slice none 0 0, .int .i64 0, .int .i64 0, .int .i64 0, .int .i64 0], []⟩ 8 (by kernel_rfl) (by kernel_rfl) (by kernel_rfl) (by kernel_rfl)) ?_
  intro W base args ds gs before hval0 hW hcnd _
  have hval : ∀ (j : Nat) t v, Try.f6.params[j]? = some t → args[j]? = some v → Value.okWide Try.prog W .any base t v := hval0
  have hW' := hW
  obtain ⟨p, q, hA0, hV, rfl, hfz, hnd⟩ := hW
  have hA : DataW.TrodAll enc Try.prog W 0 (fun _ => true) true Try.f6.params.toList args.toList ds p := hA0
  rw [Try.params6] at hA hval
  obtain ⟨v0, vs0, d0, ds0, p0, q0, hargs, rfl, rfl, h0, r0⟩ := trodAll_cons hA
  obtain ⟨v1, vs1, d1, ds1, p1, q1, rfl, rfl, rfl, h1, r1⟩ := trodAll_cons r0
  obtain ⟨v2, vs2, d2, ds2, p2, q2, rfl, rfl, rfl, h2, r2⟩ := trodAll_cons r1
  obtain ⟨v3, vs3, d3, ds3, p3, q3, rfl, rfl, rfl, h3, r3⟩ := trodAll_cons r2
  obtain ⟨v4, vs4, d4, ds4, p4, q4, rfl, rfl, rfl, h4, r4⟩ := trodAll_cons r3
  obtain ⟨v5, vs5, d5, ds5, p5, q5, rfl, rfl, rfl, h5, r5⟩ := trodAll_cons r4
  obtain ⟨v6, vs6, d6, ds6, p6, q6, rfl, rfl, rfl, h6, r6⟩ := trodAll_cons r5
  obtain ⟨rfl, rfl, rfl⟩ := trodAll_nil r6
  obtain rfl : args = #[v0, v1, v2, v3, v4, v5, v6] := by cases args; simp_all
  obtain ⟨rfl, rfl⟩ := trodVars_none hV
  obtain ⟨a0, len0, cap0, rfl⟩ := okWide_slice Try.underlying22 (hval 0 22 v0 rfl rfl)
  have k0 := h0
  have lt0 : ∀ x ∈ p0, x.block < W.heap.size := by obtain ⟨m, hm⟩ := k0; exact DataW.trod_lt m _ _ _ hm
  obtain ⟨z0, w0⟩ : ∃ zs, IsRow .u8 W a0 len0 cap0 zs := by
    obtain ⟨fuel, hf⟩ := h0
    rcases open_ints Try.underlying22 Try.underlying5 (by kernel_rfl) hf with ⟨hcs, _⟩ | ⟨x, l, c, zs, hcs, _, hl, hm, hz, _, hcell, hwz⟩
    · simp [Value.cells] at hcs
      obtain ⟨rfl, rfl, rfl⟩ := hcs
      exact ⟨[], .inl ⟨rfl, rfl, rfl, rfl⟩⟩
    · simp [Value.cells] at hcs
      obtain ⟨rfl, rfl, rfl⟩ := hcs
      exact ⟨zs, .inr ⟨_, rfl, hl, hm, by simpa using hz, hcell, hwz⟩⟩
  obtain ⟨a1, len1, cap1, rfl⟩ := okWide_slice Try.underlying22 (hval 1 22 v1 rfl rfl)
  have k1 := h1
  have lt1 : ∀ x ∈ p1, x.block < W.heap.size := by obtain ⟨m, hm⟩ := k1; exact DataW.trod_lt m _ _ _ hm
  obtain ⟨z1, w1⟩ : ∃ zs, IsRow .u8 W a1 len1 cap1 zs := by
    obtain ⟨fuel, hf⟩ := h1
    rcases open_ints Try.underlying22 Try.underlying5 (by kernel_rfl) hf with ⟨hcs, _⟩ | ⟨x, l, c, zs, hcs, _, hl, hm, hz, _, hcell, hwz⟩
    · simp [Value.cells] at hcs
      obtain ⟨rfl, rfl, rfl⟩ := hcs
      exact ⟨[], .inl ⟨rfl, rfl, rfl, rfl⟩⟩
    · simp [Value.cells] at hcs
      obtain ⟨rfl, rfl, rfl⟩ := hcs
      exact ⟨zs, .inr ⟨_, rfl, hl, hm, by simpa using hz, hcell, hwz⟩⟩
  obtain ⟨a2, len2, cap2, rfl⟩ := okWide_slice Try.underlying22 (hval 2 22 v2 rfl rfl)
  have k2 := h2
  have lt2 : ∀ x ∈ p2, x.block < W.heap.size := by obtain ⟨m, hm⟩ := k2; exact DataW.trod_lt m _ _ _ hm
  obtain ⟨z2, w2⟩ : ∃ zs, IsRow .u8 W a2 len2 cap2 zs := by
    obtain ⟨fuel, hf⟩ := h2
    rcases open_ints Try.underlying22 Try.underlying5 (by kernel_rfl) hf with ⟨hcs, _⟩ | ⟨x, l, c, zs, hcs, _, hl, hm, hz, _, hcell, hwz⟩
    · simp [Value.cells] at hcs
      obtain ⟨rfl, rfl, rfl⟩ := hcs
      exact ⟨[], .inl ⟨rfl, rfl, rfl, rfl⟩⟩
    · simp [Value.cells] at hcs
      obtain ⟨rfl, rfl, rfl⟩ := hcs
      exact ⟨zs, .inr ⟨_, rfl, hl, hm, by simpa using hz, hcell, hwz⟩⟩
  obtain ⟨a3, rfl, rfl, rfl, w3⟩ := open_int Try.underlying3 (hval 3 3 v3 rfl rfl) h3
  obtain ⟨a4, rfl, rfl, rfl, w4⟩ := open_int Try.underlying3 (hval 4 3 v4 rfl rfl) h4
  obtain ⟨a5, rfl, rfl, rfl, w5⟩ := open_int Try.underlying3 (hval 5 3 v5 rfl rfl) h5
  obtain ⟨a6, rfl, rfl, rfl, w6⟩ := open_int Try.underlying3 (hval 6 3 v6 rfl rfl) h6
  refine (walk a0 len0 cap0 z0 a1 len1 cap1 z1 a2 len2 cap2 z2 a3 a4 a5 a6 W w0 w1 w2 w3 w4 w5 w6).mono fun e W' ⟨he, bel⟩ => ?_
  subst he
  exact ⟨_, rfl, _, _, _, [], _, [], hW', trodAll_mk1 (shut_bool Try.underlying4 _), (trodAll_cons_mk (Below.trod laidOut (by kernel_rfl) (of_decide_eq_true (by kernel_rfl)) k0 bel lt0) (trodAll_cons_mk (Below.trod laidOut (by kernel_rfl) (of_decide_eq_true (by kernel_rfl)) k1 bel lt1) (trodAll_cons_mk (Below.trod laidOut (by kernel_rfl) (of_decide_eq_true (by kernel_rfl)) k2 bel lt2) (trodAll_cons_mk (shut_int Try.underlying3 w3) (trodAll_cons_mk (shut_int Try.underlying3 w4) (trodAll_cons_mk (shut_int Try.underlying3 w5) (trodAll_cons_mk (shut_int Try.underlying3 w6) trodAll_mk0))))))), rfl, bel.frame _, fun h => by cases h⟩

theorem over : Rows.patchPartsRow.holds Try.pinned (OpenSpec.ofChange Rows.patchPartsSpec) :=
  OpenClaim.holds_of_wide 6 Try.f6 rfl rfl rfl rfl rfl rfl rfl ⟨rfl, rfl, rfl, rfl, rfl⟩ rfl rfl rfl rfl rfl (by kernel_rfl) Try.func6 (by kernel_rfl)
    (of_decide_eq_true (by kernel_rfl)) (by unfold Func.isWrapper; first | (rw [if_pos (by decide +kernel)]; kernel_rfl) | (rw [if_neg (by decide +kernel)]; exact ⟨rfl, rfl⟩))
    (fun os started H enc _ => lifted os started H enc)

/-- The statement. -/
theorem proved : Rows.PatchPartsSaid := over
#print axioms proved
end Go.Proofs.Ytbkifjmfmiipnaa.patchParts
