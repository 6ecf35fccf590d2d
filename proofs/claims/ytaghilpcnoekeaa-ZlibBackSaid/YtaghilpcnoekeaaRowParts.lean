/- Parts of rows of bytes. -/
import Derived.Test.YtaghilpcnoekeaaRowB
import Derived.Test.YtaghilpcnoekeaaSub
namespace Go.Proofs.Ytaghilpcnoekeaa
open Go.RowKit
set_option linter.unusedVariables false
theorem RowB.part {w : World} {a : Option Addr} {n c : Nat} {xs : List Int} (h : RowB w a n c xs) (lo : Nat) (hlo : lo ≤ n) : RowB w (subA a c lo) (n - lo) (c - lo) (xs.drop lo) := by
  have hp := h.bytes.part c lo n hlo (Nat.le_refl _) h.le
  rw [List.take_of_length_le (by rw [List.length_drop, h.len]; omega)] at hp
  exact ⟨by have := h.le; omega, by have := h.cap; omega, subA_nil h.nil, hp⟩
theorem RowB.first {w : World} {a : Option Addr} {n c : Nat} {xs : List Int} (h : RowB w a n c xs) (k : Nat) (hk : k ≤ n) : Bytes w a k (xs.take k) := by
  have := h.bytes.first k
  rwa [show min n k = k by omega] at this
end Go.Proofs.Ytaghilpcnoekeaa
