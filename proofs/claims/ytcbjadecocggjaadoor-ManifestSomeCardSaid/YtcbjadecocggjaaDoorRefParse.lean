/- The document's reading of a text as a sum: the walk. -/
import Derived.Test.YtcbjadecocggjaaDoorRefHex
namespace Go.Proofs.YtcbjadecocggjaaDoor
open Go.RowKit Plain
set_option linter.unusedVariables false
theorem nib_hexD (m c : Nat) (h : m < 16) : c = hexD m ↔ nib c = (m : Int) := by
  unfold hexD nib
  split <;> (try split) <;> (try split) <;> omega
theorem info24 (xs : List Int) (h : xs.length = 20) : (Tryd.prog.info? 29).map (·.size) = some (V8 xs).size := by
  rw [V8_size, h]; kernel_rfl
theorem zero_24 (w : World) : (zeroValue 29).run Tryd.prog w = .ok (.agg (V8 zeros20)) w := by
  show _ = Result.ok (Value.agg (List.replicate 20 (Value.int .u8 0)).toArray) w
  kernel_rfl
/-- Is the number of two digits' worth met below n? -/
def metTo (x0 x1 : Int) (n : Nat) : Bool := decide (0 ≤ x0 ∧ 0 ≤ x1 ∧ 16 * x0 + x1 < n)
def rowTo (s : ByteArray) (k n : Nat) : List Int := if metTo (nib (at8 s (2 * k))) (nib (at8 s (2 * k + 1))) n = true then valsTo s (k + 1) else valsTo s k
theorem rowTo_length (s : ByteArray) (k n : Nat) : (rowTo s k n).length = 20 := by unfold rowTo; split <;> exact valsTo_length _ _
theorem met_step (x0 x1 : Int) (n : Nat) (h0 : -1 ≤ x0 ∧ x0 ≤ 15) (h1 : -1 ≤ x1 ∧ x1 ≤ 15) (hn : n < 256) (hm : x0 = ((n / 16 : Nat) : Int) ∧ x1 = ((n % 16 : Nat) : Int)) : metTo x0 x1 n = false ∧ metTo x0 x1 (n + 1) = true ∧ 16 * x0 + x1 = (n : Int) := by
  unfold metTo
  refine ⟨?_, ?_, by omega⟩
  · simp; omega
  · simp; omega
theorem met_same (x0 x1 : Int) (n : Nat) (h0 : -1 ≤ x0 ∧ x0 ≤ 15) (h1 : -1 ≤ x1 ∧ x1 ≤ 15) (hm : ¬ (x0 = ((n / 16 : Nat) : Int) ∧ x1 = ((n % 16 : Nat) : Int))) : metTo x0 x1 (n + 1) = metTo x0 x1 n := by
  unfold metTo
  rw [decide_eq_decide]
  constructor
  · intro h
    refine ⟨h.1, h.2.1, ?_⟩
    have := h.2.2
    by_cases e : 16 * x0 + x1 = (n : Int)
    · exact absurd ⟨by omega, by omega⟩ hm
    · omega
  · intro h; refine ⟨h.1, h.2.1, by omega⟩
theorem met_all (x0 x1 : Int) (h0 : -1 ≤ x0 ∧ x0 ≤ 15) (h1 : -1 ≤ x1 ∧ x1 ≤ 15) : metTo x0 x1 256 = (decide (0 ≤ x0) && decide (0 ≤ x1)) := by
  unfold metTo
  rw [Bool.eq_iff_iff]
  simp
  omega
end Go.Proofs.YtcbjadecocggjaaDoor
