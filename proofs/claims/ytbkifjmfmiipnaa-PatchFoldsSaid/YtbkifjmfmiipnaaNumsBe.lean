/- The program's four bytes of a number: the walk. -/
import Derived.Test.YtbkifjmfmiipnaaAlike
namespace Go.Proofs.Ytbkifjmfmiipnaa
open Go.RowKit Plain
set_option linter.unusedVariables false
def partBe (n k : Nat) : List Int := (be4 n).take k ++ List.replicate (4 - k) 0
theorem partBe_next (n k : Nat) (h : k < 4) (x : Int) (hx : x = ((n / 256 ^ (3 - k) % 256 : Nat) : Int)) : (partBe n k).set k x = partBe n (k + 1) := by
  subst hx
  match k, h with
  | 0, _ => rfl
  | 1, _ => rfl
  | 2, _ => simp [partBe, be4]
  | 3, _ => simp [partBe, be4]
theorem made4 (n : Nat) : (madeCells (Value.int .u8 0).cells (4 * 1)).toList = (partBe n 0).map (Value.int .u8) := by
  have e : (madeCells (Value.int .u8 0).cells (4 * 1)).toList = [.int .u8 0, .int .u8 0, .int .u8 0, .int .u8 0] := by kernel_rfl
  rw [e]
  simp [partBe, be4, List.replicate]
set_option maxHeartbeats 4000000 in
theorem numsBe_any (n : Nat) (hn : n < 18446744073709551616) (w : World) :
    Calls Try.prog 25 #[.int .u64 (n : Int), .int .i64 4] w fun e w' => (∃ a c, e = .returned (.slice a 4 c) ∧ Own w' w.heap.size (.slice a 4 c) 4 (be4 n)) ∧ Below w.heap.size w w' := by
  have hmn : ∀ (ts : Array TypeId) (t : TypeId) (W : World), (Builtin.min_ ts t #[.int .i64 4, .int .i64 8]).run Try.prog W = .ok (.int .i64 4) W := fun ts t W => by simp [Builtin.min_, Builtin.min2]
  have hmx : ∀ (ts : Array TypeId) (t : TypeId) (W : World), (Builtin.max_ ts t #[.int .i64 4, .int .i64 0]).run Try.prog W = .ok (.int .i64 4) W := fun ts t W => by simp [Builtin.max_, Builtin.max2]
  go_enter Try.func25, Try.ntmps25
  obtain ⟨i0, hi, hz0, hz1, hz2⟩ := info_parts u8info
  go_wp2_with (
    at_make
    refine wpList_make_full _ rfl _ _ 22 rfl w.heap.size 5 i0 (.int .u8 0) 1 Try.underlying22 hi hz0 hz1 .i64 .i64 4 4 4 rfl rfl rfl rfl (by rw [hz2]; omega) (by unfold maxLen; omega) (Nat.le_refl _) ?_
    intro w1 ho hg
    rw [made4 n] at ho
    have HO : Hid (Own w1 w.heap.size (.slice (some ⟨w.heap.size, 0, none⟩) 4 4) 4 (partBe n 0)) := ho
    have HB : Hid (Below w.heap.size w w1) := (Below.refl _ _).grown hg (Nat.le_refl _) (fun k e => by cases e)
    clear ho hg)
  go_loopw [14] (fun i wr => ∃ k : Nat, k ≤ 4 ∧ i = .int .i64 (k : Int) ∧ Own wr w.heap.size (.slice (some ⟨w.heap.size, 0, none⟩) 4 4) 4 (partBe n k) ∧ Below w.heap.size w wr) (fun i _ => 4 - (intOf i).toNat)
  case atStart => exact ⟨0, by omega, rfl, HO.out, HB.out⟩
  case round =>
    obtain ⟨k, hk, rfl, hown, hbel⟩ := hrel
    have HOW : Hid (Own wr w.heap.size (.slice (some ⟨w.heap.size, 0, none⟩) 4 4) 4 (partBe n k)) := hown
    have HBE : Hid (Below w.heap.size w wr) := hbel
    clear hown hbel
    by_cases hlt : k < 4
    · obtain ⟨kk, hkk⟩ : ∃ kk, kk = k + 1 := ⟨_, rfl⟩
      have hcell := HOW.out.cell k hlt
      have hfree := HOW.out.free k
      have HNX : Hid (∀ x : Int, x = ((n / 256 ^ (3 - k) % 256 : Nat) : Int) → Own (wr.setCell ⟨w.heap.size, k, none⟩ (.int .u8 x)) w.heap.size (.slice (some ⟨w.heap.size, 0, none⟩) 4 4) 4 (partBe n kk)) := fun x hx => by
        rw [hkk, ← partBe_next n k hlt x hx]
        exact HOW.out.stored k x
      have HBX : Hid (∀ v, Below w.heap.size w (wr.setCell ⟨w.heap.size, k, none⟩ v)) := fun v => HBE.out.setCell (Nat.le_refl _) _
      clear HOW HO HB
      obtain rfl | rfl | rfl | rfl : k = 0 ∨ k = 1 ∨ k = 2 ∨ k = 3 := by omega
      all_goals
        go_wp2_with fail
        refine ⟨⟨kk, by omega, by subst hkk; rfl, HNX.out _ ?_, HBX.out _⟩, by subst hkk; simp [intOf]⟩
        simp only [Nat.reduceSub, Nat.reducePow]
        omega
    · obtain rfl : k = 4 := by omega
      go_wp2_with fail
      go_ret
      exact ⟨⟨_, _, rfl, HOW.out⟩, HBE.out⟩
end Go.Proofs.Ytbkifjmfmiipnaa
