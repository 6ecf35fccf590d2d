/- What is written, as steps: what it becomes. -/
import Derived.Test.YtkpnmagcmpljoaaToldMath
import Derived.Test.YtkpnmagcmpljoaaFlush
namespace Go.Proofs.Ytkpnmagcmpljoaa
set_option linter.unusedVariables false
open Plain
/-- The steps d write part: whatever stands behind. -/
def Writes (base d part : List Int) : Prop := ∀ (b : Nat) (more out : List Int), out.length + part.length ≤ b →
  ∀ f, (d ++ more).length < f → stepsGo base b f (d ++ more) out = stepsGo base b (more.length + 1) more (out ++ part)
theorem Writes.nil (base : List Int) : Writes base [] [] := fun b more out _ f hf => by
  rw [List.nil_append] at hf ⊢
  rw [List.append_nil]
  exact stepsGo_same base b _ _ _ _ hf (by omega)
theorem Writes.append {base d1 d2 p1 p2 : List Int} (h1 : Writes base d1 p1) (h2 : Writes base d2 p2) : Writes base (d1 ++ d2) (p1 ++ p2) := fun b more out ho f hf => by
  rw [List.length_append] at ho
  rw [List.append_assoc] at hf ⊢
  rw [h1 b (d2 ++ more) out (by omega) f hf, h2 b more (out ++ p1) (by rw [List.length_append]; omega) _ (by omega), List.append_assoc]
/-- One step. -/
theorem Writes.step {base d part : List Int} (hd : d ≠ []) (h : ∀ more, stepOf base (d ++ more) = (0, part, more)) : Writes base d part := fun b more out ho f hf => by
  cases f with
  | zero => omega
  | succ f =>
    have hne : d ++ more ≠ [] := by simp [hd]
    have hl : 0 < d.length := List.length_pos_iff.2 hd
    rw [stepsGo, if_neg hne, h more]
    simp only []
    rw [if_neg (by simp), if_neg (by omega)]
    rw [List.length_append] at hf
    exact stepsGo_same base b _ _ _ _ (by omega) (by omega)
theorem writes_told (base : List Int) (place size : Nat) (hp : place < 4294967296) (hs0 : 0 < size) (hs : size < 16777216) (hb : place + size ≤ base.length) : Writes base (toldOf (place + size * 4294967296)) (sub base place size) :=
  .step (by simp [toldOf]) (fun more => step_told base place size hp hs0 hs hb more)
theorem writes_insert (base P : List Int) (h0 : P ≠ []) (h : P.length ≤ 127) : Writes base ((P.length : Int) :: P) P :=
  .step (by simp) (fun more => by
    have hl : 0 < P.length := List.length_pos_iff.2 h0
    rw [List.cons_append, stepOf, Int.toNat_natCast, if_neg (by omega), if_neg (by rw [List.length_append]; omega), if_neg (by omega)]
    simp)
theorem writes_flush (base : List Int) : ∀ (n : Nat) (P : List Int), P.length ≤ n → Writes base (flushOf P) P
  | 0, P, h => by
    obtain rfl : P = [] := List.eq_nil_of_length_eq_zero (by omega)
    exact Writes.nil base
  | n + 1, P, h => by
    by_cases h0 : P = []
    · subst h0; exact Writes.nil base
    · have hl : 0 < P.length := List.length_pos_iff.2 h0
      rw [flushOf_step P h0]
      have e : (P.take 127).length = min P.length 127 := by rw [List.length_take, Nat.min_comm]
      have h1 := writes_insert base (P.take 127) (by intro e'; rw [e'] at e; simp at e; omega) (by omega)
      rw [e] at h1
      have h2 := writes_flush base n (P.drop 127) (by rw [List.length_drop]; omega)
      have := h1.append h2
      rwa [List.take_append_drop] at this
theorem flushOf_len : ∀ (n : Nat) (P : List Int), P.length ≤ n → 127 * (flushOf P).length ≤ 128 * P.length + 126
  | 0, P, h => by
    obtain rfl : P = [] := List.eq_nil_of_length_eq_zero (by omega)
    rw [flushOf_nil]; simp
  | n + 1, P, h => by
    by_cases h0 : P = []
    · subst h0; rw [flushOf_nil]; simp
    · have hl : 0 < P.length := List.length_pos_iff.2 h0
      have ih := flushOf_len n (P.drop 127) (by rw [List.length_drop]; omega)
      rw [flushOf_step P h0, List.length_append, List.length_cons, List.length_take]
      rw [List.length_drop] at ih
      by_cases h1 : P.length ≤ 127
      · have : P.drop 127 = [] := List.drop_of_length_le h1
        rw [this, flushOf_nil]
        simp only [List.length_nil]
        omega
      · omega
end Go.Proofs.Ytkpnmagcmpljoaa
