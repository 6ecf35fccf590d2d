/- The order of a tree's entries is one that stable sorting goes by; the program's merging step, plainly. -/
import Derived.Test.YthemolkmciofaaaDoorStabB
import Derived.Test.YthemolkmciofaaaDoorTrMath
namespace Go.Proofs.YthemolkmciofaaaDoor
open Go.RowKit Plain
set_option linter.unusedVariables false
theorem cmp_neg : ∀ a b : List UInt8, Lib.compareBytes b a = - Lib.compareBytes a b
  | [], [] => rfl
  | [], _ :: _ => rfl
  | _ :: _, [] => rfl
  | x :: a, y :: b => by
    have ih := cmp_neg a b
    unfold Lib.compareBytes
    by_cases h1 : x < y
    · have h2 : ¬ y < x := fun h => by rw [UInt8.lt_iff_toNat_lt] at h1 h; omega
      rw [if_pos h1, if_neg h2, if_pos h1]; rfl
    · by_cases h2 : y < x
      · rw [if_pos h2, if_neg h1, if_pos h2]
      · rw [if_neg h2, if_neg h1, if_neg h1, if_neg h2]; exact ih
theorem cmp_zero : ∀ a b : List UInt8, Lib.compareBytes a b = 0 → a = b
  | [], [], _ => rfl
  | [], _ :: _, h => by simp [Lib.compareBytes] at h
  | _ :: _, [], h => by simp [Lib.compareBytes] at h
  | x :: a, y :: b, h => by
    unfold Lib.compareBytes at h
    by_cases h1 : x < y
    · rw [if_pos h1] at h; omega
    · rw [if_neg h1] at h
      by_cases h2 : y < x
      · rw [if_pos h2] at h; omega
      · rw [if_neg h2] at h
        have : x = y := by
          apply UInt8.toNat_inj.1
          rw [UInt8.lt_iff_toNat_lt] at h1 h2
          omega
        rw [this, cmp_zero a b h]
theorem ltB_neg {a b c : List UInt8} (h1 : ltB a b = true) (h2 : ltB c b = false) : ltB a c = true := by
  have e1 := of_decide_eq_true h1
  have e2 := of_decide_eq_false h2
  have e3 := cmp_neg c b
  by_cases h0 : Lib.compareBytes c b = 0
  · rw [cmp_zero c b h0]; exact h1
  · exact decide_eq_true (cmp_trans a b c e1 (by omega))
/-- The order of entries. -/
def ltT (x y : TE) : Bool := ltB (keyT x) (keyT y)
theorem ltT_swo : SWO ltT := ⟨fun a => decide_eq_false (by rw [cmp_self]; omega), fun a b c h1 h2 => ltB_trans h1 h2, fun a b c h1 h2 => ltB_neg h1 h2⟩
end Go.Proofs.YthemolkmciofaaaDoor
