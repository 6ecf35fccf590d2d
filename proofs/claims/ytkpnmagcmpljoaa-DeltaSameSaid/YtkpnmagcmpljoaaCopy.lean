/- What is pending is written, then a copy: the walk. -/
import Derived.Test.YtkpnmagcmpljoaaCopyStep
import Derived.Test.YtkpnmagcmpljoaaFlushMath
namespace Go.Proofs.Ytkpnmagcmpljoaa
open Go.RowKit Plain
set_option linter.unusedVariables false
set_option maxRecDepth 100000 in
set_option maxHeartbeats 8000000 in
theorem copy_any (s0 Wb Mb : Nat) (D P : List Int) (place size : Nat) (hp : place < 4294967296) (hz0 : 0 < size) (hz : size < 16777216) (hx : ∀ x ∈ P, 0 ≤ x ∧ x ≤ 255) (hP : D.length + 2 * P.length ≤ 1000000000) (w : World) (hs : s0 ≤ w.heap.size) (H : Wr w s0 Wb Mb D P) :
    Calls Try.prog 25 #[.pointer (some ⟨Wb, 0, none⟩), .int .i64 (place : Int), .int .i64 (size : Int)] w fun e w' => e = .returned (.tuple #[]) ∧ Wr w' s0 Wb Mb (D ++ flushOf P ++ toldOf (place + size * 4294967296)) [] ∧ Fr s0 Mb w w' := by
  have HX := Lib.hid hx
  have HW := Lib.hid H
  have hfl := flushOf_len P.length P (Nat.le_refl _)
  have HD : Hid ((D ++ flushOf P).length ≤ 1000000000) := by
    show _ ≤ _
    rw [List.length_append]; omega
  clear hx H
  have hflush := flush_any s0 Wb Mb D P HX.out hP w hs HW.out
  clear hfl hP
  obtain ⟨D1, hD1⟩ : ∃ D1, D ++ flushOf P = D1 := ⟨_, rfl⟩
  rw [hD1] at HD hflush ⊢
  clear hD1
  go_enter Try.func25, Try.ntmps25
  go_wp2_with fail
  refine hflush.mono ?_
  rintro e w1 ⟨rfl, hw1, hf1⟩
  have HW1 := Lib.hid hw1
  have HF1 := Lib.hid hf1
  clear hflush hw1 hf1
  go_wp2_with fail
  go_loopw [1, 2] (fun p s wr => Fr s0 Mb w wr ∧ ((p = .int .i64 (place : Int) ∧ s = .int .i64 (size : Int) ∧ Wr wr s0 Wb Mb D1 []) ∨ (s = .int .i64 0 ∧ Wr wr s0 Wb Mb (D1 ++ toldOf (place + size * 4294967296)) []))) (fun p s _ => (intOf s).toNat)
  case atStart => exact ⟨HF1.out, .inl ⟨rfl, rfl, HW1.out⟩⟩
  case round =>
    obtain ⟨hf, ⟨rfl, rfl, hw⟩ | ⟨rfl, hw⟩⟩ := hrel
    · have hsr : s0 ≤ wr.heap.size := Nat.le_trans hs hf.below.size
      have hstep := copyStep_any s0 Wb Mb D1 [] place size hp hz HD.out wr hsr hw
      have HF := Lib.hid hf
      have hmn : ∀ (ts : Array TypeId) (t : TypeId) (W : World), (Builtin.min_ ts t #[.int .i64 (size : Int), .int .i64 16777215]).run Try.prog W = .ok (.int .i64 (size : Int)) W := fun ts t W => by
        have := min2_run (P := Try.prog) ts t .i64 .i64 size 16777215 W
        rwa [show min (size : Int) 16777215 = (size : Int) by omega] at this
      have hz1 : (0 : Int) < size := by omega
      clear hf hw HW1 HF1
      go_wp2_with fail
      refine hstep.mono ?_
      rintro e w2 ⟨rfl, hw2, hf2⟩
      have HW2 := Lib.hid hw2
      have HF2 := Lib.hid (HF.out.trans hf2)
      clear hstep hw2 hf2 hmn
      go_wp2_with fail
      exact ⟨⟨HF2.out, .inr ⟨by simp, HW2.out⟩⟩, by simp [intOf]; omega⟩
    · have HW2 := Lib.hid hw
      have HF2 := Lib.hid hf
      clear hf hw
      go_wp2_with fail
      go_end0
      exact ⟨rfl, HW2.out, HF2.out⟩
end Go.Proofs.Ytkpnmagcmpljoaa
