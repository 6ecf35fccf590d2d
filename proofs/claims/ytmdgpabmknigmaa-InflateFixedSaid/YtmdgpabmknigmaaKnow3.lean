/- The chapter's examples, plainly. -/
import Derived.Test.YtmdgpabmknigmaaBase
import Derived.Test.YtmdgpabmknigmaaInfE
/-! The chapter's examples, plainly. -/
namespace Go.Proofs.Ytmdgpabmknigmaa
namespace Plain
deriving instance DecidableEq for Except
theorem known_r1 : rawOf [75, 4, 0] 9 = .ok (18, [97]) := by decide +kernel
theorem known_r2 : rawOf [1, 1, 0, 254, 255, 97, 98] 9 = .ok (48, [97]) := by decide +kernel
theorem known_r3 : rawOf [75, 76, 76, 4, 0] 2 = .error 2 := by decide +kernel
end Plain
end Go.Proofs.Ytmdgpabmknigmaa
/-! The chapter's examples: the walk. -/
namespace Go.Proofs.Ytmdgpabmknigmaa
open Go.RowKit Plain
set_option linter.unusedVariables false
set_option maxRecDepth 100000 in
set_option maxHeartbeats 4000000 in
theorem known_any (w : World) : Calls Try.prog 10 #[] w fun e w' => e = .returned (.bool true) ∧ Below w.heap.size w w' := by
  have hcv := fun (w : World) (C : Array Value) (n c g : Nat) (hg : g = w.heap.size) => Joins.run_convert_bytes_const_at (P := Try.prog) w 22 5 C n c g hg Try.underlying22 Try.underlying5
  go_enter Try.func10, Try.ntmps10
  go_wp2_with fail
  refine (raw_lit w [75, 4, 0] 3 9 9 rfl (by omega) (by decide) rfl (by omega)).mono ?_
  rintro e w2 ⟨⟨q, m, va, vc, hr, rfl, hv⟩ | ⟨k, hr, rfl⟩, hb2⟩
  rotate_left
  · rw [known_r1] at hr; cases hr
  rw [known_r1] at hr
  injection hr with hr
  injection hr with h1 h2
  subst h1 h2
  have HB2 : Hid (Below w.heap.size w w2) := hb2
  have HV2 : Hid (RowB w2 va 1 vc [97]) := hv
  clear hv hb2
  go_wp2_with fail
  refine (raw_lit w2 [1, 1, 0, 254, 255, 97, 98] 7 9 9 rfl (by omega) (by decide) rfl (by omega)).mono ?_
  rintro e w3 ⟨⟨q, m, va3, vc3, hr, rfl, hv⟩ | ⟨k, hr, rfl⟩, hb3⟩
  rotate_left
  · rw [known_r2] at hr; cases hr
  rw [known_r2] at hr
  injection hr with hr
  injection hr with h1 h2
  subst h1 h2
  have HB3 : Hid (Below w.heap.size w w3) := HB2.out.trans (hb3.mono HB2.out.size)
  have HV23 : Hid (RowB w3 va 1 vc [97]) := HV2.out.below hb3
  have HV3 : Hid (RowB w3 va3 1 vc3 [97]) := hv
  clear hv hb3 HB2 HV2
  go_wp2_with fail
  refine (raw_lit w3 [75, 76, 76, 4, 0] 5 2 2 rfl (by omega) (by decide) rfl (by omega)).mono ?_
  rintro e w4 ⟨⟨q, m, va4, vc4, hr, rfl, hv⟩ | ⟨k, hr, rfl⟩, hb4⟩
  · rw [known_r3] at hr; cases hr
  rw [known_r3] at hr
  injection hr with h1
  subst h1
  have HB4 : Hid (Below w.heap.size w w4) := HB3.out.trans (hb4.mono HB3.out.size)
  have ht := text_run w4 va 1 vc _ (HV23.out.below hb4).bytes
  have ht2 := text_run w4 va3 1 vc3 _ (HV3.out.below hb4).bytes
  have hs : strOfNums [97] = ⟨#[97]⟩ := by decide +kernel
  rw [hs] at ht ht2
  clear hb4 HB3 HV23 HV3
  go_wp2_with fail
  go_ret
  exact ⟨rfl, HB4.out⟩
end Go.Proofs.Ytmdgpabmknigmaa
