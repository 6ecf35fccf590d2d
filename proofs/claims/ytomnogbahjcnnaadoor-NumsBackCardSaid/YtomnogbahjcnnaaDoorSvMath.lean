/- Deltas, plainly: numbers in sevens; steps; what a base becomes. -/
import Derived.Test.YtomnogbahjcnnaaDoorBytes
namespace Go.Proofs.YtomnogbahjcnnaaDoor.Sv
namespace Plain
/-- The number that a row of sevens begins with: the number, how many bytes it has, the error's number. -/
def lebGo : List Int → Nat → Nat → Nat × Nat × Nat
  | [], _, _ => (0, 0, 3)
  | x :: t, i, n =>
    if 12 ≤ i ∨ (4611686018427387903 - n) / 2 ^ (7 * i) < x.toNat % 128 then (0, 0, 2)
    else if x.toNat < 128 then (n + x.toNat % 128 * 2 ^ (7 * i), i + 1, 0)
    else lebGo t (i + 1) (n + x.toNat % 128 * 2 ^ (7 * i))
def lebOf (xs : List Int) : Nat × Nat × Nat := lebGo xs 0 0
theorem le_div_high (x n i : Nat) (hn : n ≤ 4611686018427387903) (hx : x ≤ (4611686018427387903 - n) / 2 ^ (7 * i)) : n + x * 2 ^ (7 * i) ≤ 4611686018427387903 := by
  have := (Nat.le_div_iff_mul_le (Nat.two_pow_pos (7 * i))).1 hx
  omega
theorem seven_lt (x n i : Nat) (hn : n < 2 ^ (7 * i)) (hx : x < 128) : n + x * 2 ^ (7 * i) < 2 ^ (7 * (i + 1)) := by
  have e : 2 ^ (7 * (i + 1)) = 128 * 2 ^ (7 * i) := by rw [show 7 * (i + 1) = 7 + 7 * i by omega, Nat.pow_add]
  rw [e]
  have : x * 2 ^ (7 * i) ≤ 127 * 2 ^ (7 * i) := Nat.mul_le_mul_right _ (by omega)
  generalize 2 ^ (7 * i) = p at *
  omega
theorem lebGo_ok : ∀ (xs : List Int) (i n : Nat), n ≤ 4611686018427387903 → (lebGo xs i n).1 ≤ 4611686018427387903 ∧ (lebGo xs i n).2.1 ≤ i + xs.length ∧ (lebGo xs i n).2.2 ≤ 3 ∧ ((lebGo xs i n).2.2 = 0 → i + 1 ≤ (lebGo xs i n).2.1) ∧ ((lebGo xs i n).2.2 ≠ 0 → (lebGo xs i n).1 = 0 ∧ (lebGo xs i n).2.1 = 0)
  | [], i, n, hn => by simp [lebGo]
  | x :: t, i, n, hn => by
    rw [lebGo]
    split
    · simp
    · rename_i h
      have h2 := le_div_high (x.toNat % 128) n i hn (by omega)
      split
      · refine ⟨h2, ?_, by simp, fun _ => by simp, fun h => absurd rfl h⟩
        simp only [List.length_cons]; omega
      · obtain ⟨g1, g2, g3, g4, g5⟩ := lebGo_ok t (i + 1) _ h2
        refine ⟨g1, ?_, g3, fun e => ?_, g5⟩
        · simp only [List.length_cons]; omega
        · have := g4 e; omega
theorem lebOf_ok (xs : List Int) : (lebOf xs).1 ≤ 4611686018427387903 ∧ (lebOf xs).2.1 ≤ xs.length ∧ (lebOf xs).2.2 ≤ 3 ∧ ((lebOf xs).2.2 = 0 → 1 ≤ (lebOf xs).2.1) ∧ ((lebOf xs).2.2 ≠ 0 → (lebOf xs).1 = 0 ∧ (lebOf xs).2.1 = 0) := by
  have := lebGo_ok xs 0 0 (by omega)
  simpa [lebOf] using this
end Plain
end Go.Proofs.YtomnogbahjcnnaaDoor.Sv
