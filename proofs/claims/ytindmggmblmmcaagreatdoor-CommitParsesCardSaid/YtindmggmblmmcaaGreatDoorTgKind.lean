/- The kind of a word; an id, as the document tells it: the walks. -/
import Derived.Test.YtindmggmblmmcaaGreatDoorCoRVal
import Derived.Test.YtindmggmblmmcaaGreatDoorWord
namespace Go.Proofs.YtindmggmblmmcaaGreatDoor
open Go.RowKit Plain Go.ChangeShapes Go.WideShapes Go.ChangeAt Go.Great
set_option linter.unusedVariables false
def kindUpto (s : ByteArray) : Nat → Nat
  | 0 => 0
  | i + 1 => if wordAt ((i + 1 : Nat) : Int) = s then i + 1 else kindUpto s i
theorem beq_list (a b : ByteArray) (h : ¬ a = b) : (a.toList == b.toList) = false := by
  exact beq_eq_false_iff_ne.2 fun e => h (toList_inj' a b e)
theorem kindUpto_le (s : ByteArray) : ∀ i, kindUpto s i ≤ i
  | 0 => Nat.le_refl _
  | i + 1 => by
    unfold kindUpto
    split
    · exact Nat.le_refl _
    · exact Nat.le_succ_of_le (kindUpto_le s i)
theorem kind_first (s : ByteArray) (k : Nat) (hk : k < 4) (h : wordAt ((k + 1 : Nat) : Int) = s) : kindUpto s 4 = k + 1 := by
  subst h
  obtain rfl | rfl | rfl | rfl : k = 0 ∨ k = 1 ∨ k = 2 ∨ k = 3 := by omega
  all_goals decide
theorem wordsRow_get (k : Nat) (hk : k < 4) : wordsRow[k]? = some (.string (wordAt ((k + 1 : Nat) : Int))) := by
  obtain rfl | rfl | rfl | rfl : k = 0 ∨ k = 1 ∨ k = 2 ∨ k = 3 := by omega
  all_goals rfl
theorem index_words (k : Nat) (hk : k < 4) (W : World) : (Instr.index 123 (.agg wordsRow) (.int .i64 (k : Int))).run Tryz.prog W = .ok (.string (wordAt ((k + 1 : Nat) : Int))) W := by
  obtain rfl | rfl | rfl | rfl : k = 0 ∨ k = 1 ∨ k = 2 ∨ k = 3 := by omega
  · show _ = Result.ok (Value.string wCommit) W; kernel_rfl
  · show _ = Result.ok (Value.string wTree) W; kernel_rfl
  · show _ = Result.ok (Value.string wBlob) W; kernel_rfl
  · show _ = Result.ok (Value.string wTag) W; kernel_rfl
set_option maxRecDepth 100000 in
set_option maxHeartbeats 4000000 in
theorem kind_any (s : ByteArray) (w : World) : Calls Tryz.prog 50 #[.string s] w fun e w' => e = .returned (.int .i64 ((kindUpto s 4 : Nat) : Int)) ∧ Below w.heap.size w w' := by
  have hz := zeroWords
  go_enter Tryz.func50, Tryz.ntmps50
  go_wp2_with fail
  refine (kinds_any w).mono ?_
  rintro e w1 ⟨rfl, hb1⟩
  have HB1 : Hid (Below w.heap.size w w1) := hb1
  clear hb1
  have e4 : wordsRow.size = 4 := rfl
  go_wp2_with fail
  go_loopw [6] (fun i wr => ∃ k : Nat, k ≤ 4 ∧ i = .int .i64 (k : Int) ∧ kindUpto s k = 0 ∧ Below w.heap.size w wr) (fun i _ => 4 - (intOf i).toNat)
  case atStart => exact ⟨0, by omega, rfl, rfl, HB1.out⟩
  case round =>
    obtain ⟨k, hk, rfl, hz0, hb⟩ := hrel
    have HZ : Hid (kindUpto s k = 0) := hz0
    have HB : Hid (Below w.heap.size w wr) := hb
    clear hz0 hb
    by_cases hlt : k < 4
    · have hli : (k : Int) < 4 := by omega
      have hg := fun W => index_words k hlt W
      by_cases hs : wordAt ((k + 1 : Nat) : Int) = s
      · have HK : Hid (kindUpto s 4 = k + 1) := kind_first s k hlt hs
        rw [hs] at hg
        clear hs
        have hw1 : wrap64 (1 + (k : Int)) = 1 + (k : Int) := by unfold wrap64; omega
        go_wp2_with fail
        go_ret
        rw [HK.out]
        exact ⟨congrArg (fun x => Ending.returned (Value.int .i64 x)) (by omega), HB.out⟩
      · have hne := beq_list _ _ hs
        have HK : Hid (kindUpto s (k + 1) = 0) := by
          show _ = _
          unfold kindUpto
          rw [if_neg hs, HZ.out]
        generalize wordAt ((k + 1 : Nat) : Int) = wk at *
        go_wp2_with fail
        exact ⟨⟨k + 1, by omega, by go_num, HK.out, HB.out⟩, by simp [intOf]; omega⟩
    · obtain rfl : k = 4 := by omega
      go_wp2_with fail
      go_ret
      rw [HZ.out]
      exact ⟨rfl, HB.out⟩
end Go.Proofs.YtindmggmblmmcaaGreatDoor
