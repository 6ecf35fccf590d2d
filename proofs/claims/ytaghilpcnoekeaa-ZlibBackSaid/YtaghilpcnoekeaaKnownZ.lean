/- The chapter's example: the walk. -/
import Derived.Test.YtaghilpcnoekeaaOpen
import Derived.Test.YtaghilpcnoekeaaZMath
namespace Go.Proofs.Ytaghilpcnoekeaa
open Go.RowKit Plain
set_option linter.unusedVariables false
theorem open_lit (w : World) (xs : List Int) (n : Nat) (M : Int) (most : Nat) (hn : xs.length = n) (hn1 : n ≤ 1000000000) (hx : ∀ x ∈ xs, 0 ≤ x ∧ x ≤ 255) (hM : most = M.toNat) (hm : most ≤ 1000000000) :
    Calls Try.prog 8 #[.slice (some ⟨w.heap.size, 0, none⟩) n n, .int .i64 M] (w.alloc (.cells (xs.map (Value.int .u8)).toArray 5)) fun e w' =>
      ((∃ q m va vc, openN xs most = .ok (q, m) ∧ e = .returned (.tuple #[.slice va m.length vc, .int .i64 (q : Int), .int .i64 0]) ∧ RowB w' va m.length vc m) ∨ ∃ k, openN xs most = .error k ∧ e = .returned (.tuple #[.slice none 0 0, .int .i64 0, .int .i64 (k : Int)])) ∧ Below w.heap.size w w' := by
  have hb : Below w.heap.size w (w.alloc (.cells (xs.map (Value.int .u8)).toArray 5)) := (Below.refl _ _).alloc (Nat.le_refl _) _
  refine (open_any _ n n xs M most _ (row_lit w xs n hn hn1 hx) hn1 hM hm).mono ?_
  rintro e w' (⟨q, m, va, vc, h1, rfl, h3, h4, h5, -⟩ | ⟨k, h1, h2, rfl, h3⟩)
  · exact ⟨.inl ⟨q, m, va, vc, h1, rfl, h3⟩, hb.trans (h5.mono hb.size)⟩
  · exact ⟨.inr ⟨k, h1, rfl⟩, hb.trans (h3.mono hb.size)⟩
set_option maxRecDepth 100000 in
set_option maxHeartbeats 4000000 in
theorem known_any (w : World) : Calls Try.prog 10 #[] w fun e w' => e = .returned (.bool true) ∧ Below w.heap.size w w' := by
  go_enter Try.func10, Try.ntmps10
  go_wp2_with fail
  refine (open_lit w [120, 156, 75, 4, 0, 0, 98, 0, 98] 9 9 9 rfl (by omega) (by decide) rfl (by omega)).mono ?_
  rintro e w2 ⟨⟨q, m, va, vc, hr, rfl, hv⟩ | ⟨k, hr, rfl⟩, hb2⟩
  rotate_left
  · rw [known_o1] at hr; cases hr
  rw [known_o1] at hr
  injection hr with hr
  injection hr with h1 h2
  subst h1 h2
  have HB2 : Hid (Below w.heap.size w w2) := hb2
  have HV2 : Hid (RowB w2 va 1 vc [97]) := hv
  clear hv hb2
  go_wp2_with fail
  refine (open_lit w2 [120, 156, 75, 4, 0, 0, 98, 0, 99] 9 9 9 rfl (by omega) (by decide) rfl (by omega)).mono ?_
  rintro e w3 ⟨⟨q, m, va3, vc3, hr, rfl, hv⟩ | ⟨k, hr, rfl⟩, hb3⟩
  · rw [known_o2] at hr; cases hr
  rw [known_o2] at hr
  injection hr with h1
  subst h1
  have HB3 : Hid (Below w.heap.size w w3) := HB2.out.trans (hb3.mono HB2.out.size)
  have ht := text_run w3 va 1 vc _ (HV2.out.below hb3).bytes
  have hs : strOfNums [97] = ⟨#[97]⟩ := by decide +kernel
  rw [hs] at ht
  clear hb3 HB2 HV2
  go_wp2_with fail
  go_ret
  exact ⟨rfl, HB3.out⟩
end Go.Proofs.Ytaghilpcnoekeaa
