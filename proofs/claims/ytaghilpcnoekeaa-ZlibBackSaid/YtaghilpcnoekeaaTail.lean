/- The two bytes ahead, and the sum behind: the walks. -/
import Derived.Test.YtaghilpcnoekeaaFrame
import Derived.Test.YtaghilpcnoekeaaAdler
namespace Go.Proofs.Ytaghilpcnoekeaa
open Go.RowKit Plain
set_option linter.unusedVariables false
theorem rightFront_any (w : World) (x y : Int) (hx : 0 ≤ x ∧ x ≤ 255) (hy : 0 ≤ y ∧ y ≤ 255) :
    Calls Try.prog 15 #[.int .u8 x, .int .u8 y] w fun e w' => e = .returned (.bool (frontN x y)) ∧ w = w' := by
  have e1 := and15 hx
  have e2 := and32 hy
  obtain ⟨r1, hr1⟩ : ∃ r, x % 16 = r := ⟨_, rfl⟩
  obtain ⟨r2, hr2⟩ : ∃ r, y / 32 % 2 * 32 = r := ⟨_, rfl⟩
  obtain ⟨r3, hr3⟩ : ∃ r, x / 16 = r := ⟨_, rfl⟩
  obtain ⟨r4, hr4⟩ : ∃ r, (256 * x + y) % 31 = r := ⟨_, rfl⟩
  have HF : Hid (frontN x y = (decide (r1 = 8) && (decide (r3 ≤ 7) && (decide (r2 = 0) && decide (r4 = 0))))) := by
    show _ = _
    unfold frontN
    rw [hr1, hr3, hr4]
    congr 3
    exact decide_eq_decide.2 (by omega)
  rw [hr1] at e1
  rw [hr2] at e2
  have e3 : (x : Int) / 2 ^ 4 = r3 := hr3
  have e5 : x / 16 = r3 := hr3
  have e4 : (256 * x + y).tmod 31 = r4 := by rw [Int.tmod_eq_emod_of_nonneg (by omega)]; exact hr4
  clear hr1 hr2 hr3
  by_cases h1 : r1 = 8
  · by_cases h3 : r3 ≤ 7
    · by_cases h2 : r2 = 0
      · by_cases h4 : r4 = 0
        · go_enter Try.func15, Try.ntmps15
          go_wp2_with fail
          go_ret
          exact ⟨by rw [HF.out]; simp [h1, h2, h3, h4], rfl⟩
        · go_enter Try.func15, Try.ntmps15
          go_wp2_with fail
          go_ret
          exact ⟨by rw [HF.out]; simp [h1, h2, h3, h4], rfl⟩
      · go_enter Try.func15, Try.ntmps15
        go_wp2_with fail
        go_ret
        exact ⟨by rw [HF.out]; simp [h1, h2, h3], rfl⟩
    · go_enter Try.func15, Try.ntmps15
      go_wp2_with fail
      go_ret
      exact ⟨by rw [HF.out]; simp [h1]; intros; omega, rfl⟩
  · go_enter Try.func15, Try.ntmps15
    go_wp2_with fail
    go_ret
    exact ⟨by rw [HF.out]; simp [h1], rfl⟩
theorem sumOf_any (w : World) (a : Option Addr) (n c : Nat) (m : List Int) (H : Bytes w a n m) :
    Calls Try.prog 16 #[.slice a n c] w fun e w' => e = .returned (.agg (V8 (tail4 m))) ∧ Below w.heap.size w w' := by
  have HB := Lib.hid H
  have hr := ad_range (s := 1) (by omega) (by omega) m
  have HT : Hid (tail4 m = [ad 1 m / 16777216, ad 1 m / 65536 % 256, ad 1 m / 256 % 256, ad 1 m % 256]) := rfl
  generalize hs : ad 1 m = s at *
  have HS := Lib.hid hs
  clear H hs
  go_enter Try.func16, Try.ntmps16
  go_wp2_with fail
  refine (adler_any a n c m _ (HB.out.below ((Below.refl _ _).alloc (Nat.le_refl _) _))).mono ?_
  rw [HS.out]
  rintro e w' ⟨rfl, rfl⟩
  go_wp2_with fail
  have hg : (w.alloc (.cells #[.int .u8 (s / 16777216), .int .u8 (s / 65536 % 256), .int .u8 (s / 256 % 256), .int .u8 (s % 256)] 32)).heap[w.heap.size]? = some (.cells #[.int .u8 (s / 16777216), .int .u8 (s / 65536 % 256), .int .u8 (s / 256 % 256), .int .u8 (s % 256)] 32 (0, 0)) := by
    show (w.heap.push _)[w.heap.size]? = _
    simp
  refine bodyPost_ret (results_cell_row Try.results16 _ _ w.heap.size 32 _ (0, 0) (.array 4 5) rfl hg Try.underlying32 rfl (by kernel_rfl)) rfl ⟨by rw [HT.out]; rfl, (Below.refl _ _).alloc (Nat.le_refl _) _⟩
theorem tail_any (w : World) (a : Option Addr) (n c : Nat) (m : List Int) (H : Bytes w a n m) :
    Calls Try.prog 12 #[.slice a n c] w fun e w' => (∃ va, e = .returned (.slice va 4 4) ∧ Bytes w' va 4 (tail4 m)) ∧ Below w.heap.size w w' := by
  have HB := Lib.hid H
  have hr := ad_range (s := 1) (by omega) (by omega) m
  have HT : Hid (tail4 m = [ad 1 m / 16777216, ad 1 m / 65536 % 256, ad 1 m / 256 % 256, ad 1 m % 256]) := rfl
  generalize hs : ad 1 m = s at *
  have HS := Lib.hid hs
  clear H hs
  go_enter Try.func12, Try.ntmps12
  go_wp2_with fail
  refine (refAdler_any 1 a n c m _ (by omega) (by omega) HB.out).mono ?_
  rw [HS.out]
  rintro e w' ⟨rfl, rfl⟩
  go_wp2_with fail
  go_ret
  refine ⟨⟨_, rfl, ?_⟩, (Below.refl _ _).alloc (Nat.le_refl _) _⟩
  have hx := tail4_range m
  rw [HT.out] at hx ⊢
  exact Bytes.lit w w.heap.size rfl [s / 16777216, s / 65536 % 256, s / 256 % 256, s % 256] 5 (0, 0) 4 rfl (by omega) hx
end Go.Proofs.Ytaghilpcnoekeaa
