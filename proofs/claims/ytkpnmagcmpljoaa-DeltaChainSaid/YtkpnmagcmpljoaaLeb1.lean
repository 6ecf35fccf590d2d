/- One byte of a row of sevens: the walk. -/
import Derived.Test.YtkpnmagcmpljoaaMath
import Derived.Deep.RegionHeld3
import Derived.Deep.RegionWith
import Derived.StillTailTactics
import Derived.StillTactics
namespace Go.Proofs.Ytkpnmagcmpljoaa
open Go.RowKit Plain
set_option linter.unusedVariables false
theorem wp_via {P : Program} {c : Code} {Q : Exit → Act → World → Prop} {a : Act} {w : World} (A : Act) (W : World) (h1 : c.wp P (fun e a' w' => e = .normal ∧ a' = A ∧ w' = W) a w) (h2 : Q .normal A W) : c.wp P Q a w := by
  refine wp_mono h1 fun e a' w' ⟨he, ha, hw⟩ => ?_
  subst he ha hw
  exact h2
theorem below_drewN {b : Nat} {w W : World} (h : Below b w W) (n : Nat) : Below b w (W.drewN n) := ⟨h.os, h.tape, h.output, h.size, h.block⟩
theorem cell_of_row (W : World) (B k : Nat) (cs : Array Value) (t : TypeId) (h : W.heap[B]? = some (.cells cs t (0, 0))) : W.cell? ⟨B, k, none⟩ = cs[k]? := by simp [World.cell?, h]
theorem or_high (n y k : Nat) (h : n < 2 ^ k) (hs : n + y * 2 ^ k < 9223372036854775808) : bits .or .i64 (n : Int) ((y * 2 ^ k : Nat) : Int) = ((n + y * 2 ^ k : Nat) : Int) := by
  show IntKind.i64.wrap ((BitVec.ofInt 64 _ ||| BitVec.ofInt 64 _ : BitVec 64).toNat : Int) = _
  rw [BitVec.toNat_or, BitVec.toNat_ofInt, BitVec.toNat_ofInt]
  have e1 : (((n : Nat) : Int) % ((2 ^ 64 : Nat) : Int)).toNat = n := by omega
  have e2 : (((y * 2 ^ k : Nat) : Int) % ((2 ^ 64 : Nat) : Int)).toNat = y <<< k := by rw [Nat.shiftLeft_eq]; omega
  rw [e1, e2, Nat.or_comm, ← Nat.shiftLeft_add_eq_or_of_lt h, Nat.shiftLeft_eq, IntKind.wrap_i64]
  generalize y * 2 ^ k = z at *
  omega
theorem run_shr (i m : Nat) (hi : i < 12) (hm : m ≤ 4611686018427387903) (W : World) : (Op.shift .shr .i64 (m : Int) .i64 (7 * (i : Int))).run Try.prog W = .ok (.int .i64 ((m / 2 ^ (7 * i) : Nat) : Int)) W := by
  have e : (m : Int).fdiv (2 ^ (min (7 * (i : Int)).toNat 64)) = ((m / 2 ^ (7 * i) : Nat) : Int) := by
    have h1 : (7 * (i : Int)).toNat = 7 * i := by omega
    rw [h1]
    have hc : i = 0 ∨ i = 1 ∨ i = 2 ∨ i = 3 ∨ i = 4 ∨ i = 5 ∨ i = 6 ∨ i = 7 ∨ i = 8 ∨ i = 9 ∨ i = 10 ∨ i = 11 := by omega
    rw [Int.fdiv_eq_ediv_of_nonneg _ (Int.pow_nonneg (by omega))]
    rcases hc with rfl | rfl | rfl | rfl | rfl | rfl | rfl | rfl | rfl | rfl | rfl | rfl <;> (simp only [Nat.reduceMul, Nat.reduceLeDiff, Nat.min_eq_left, Nat.min_eq_right, Nat.reducePow, Int.reducePow]; omega)
  show (if (7 * (i : Int)) < 0 then _ else _ : Sem Value).run _ _ = _
  rw [if_neg (by omega)]
  show Sem.run _ (pure (Value.int .i64 ((m : Int).fdiv (2 ^ (min (7 * (i : Int)).toNat 64))))) W = _
  rw [e]
  rfl
theorem run_shl (i x n : Nat) (hi : i < 12) (hn : n ≤ 4611686018427387903) (hx : x ≤ (4611686018427387903 - n) / 2 ^ (7 * i)) (W : World) : (Op.shift .shl .i64 (x : Int) .i64 (7 * (i : Int))).run Try.prog W = .ok (.int .i64 ((x * 2 ^ (7 * i) : Nat) : Int)) W := by
  have e : IntKind.i64.wrap ((x : Int) * (2 ^ (min (7 * (i : Int)).toNat 64))) = ((x * 2 ^ (7 * i) : Nat) : Int) := by
    have h1 : (7 * (i : Int)).toNat = 7 * i := by omega
    rw [h1, IntKind.wrap_i64]
    have hc : i = 0 ∨ i = 1 ∨ i = 2 ∨ i = 3 ∨ i = 4 ∨ i = 5 ∨ i = 6 ∨ i = 7 ∨ i = 8 ∨ i = 9 ∨ i = 10 ∨ i = 11 := by omega
    rcases hc with rfl | rfl | rfl | rfl | rfl | rfl | rfl | rfl | rfl | rfl | rfl | rfl <;> (simp only [Nat.reduceMul, Nat.reduceLeDiff, Nat.min_eq_left, Nat.min_eq_right, Nat.reducePow, Int.reducePow] at hx ⊢; omega)
  show (if (7 * (i : Int)) < 0 then _ else _ : Sem Value).run _ _ = _
  rw [if_neg (by omega)]
  show Sem.run _ (pure (Value.int .i64 (IntKind.i64.wrap ((x : Int) * (2 ^ (min (7 * (i : Int)).toNat 64)))))) W = _
  rw [e]
  rfl
theorem take_any (i x n B : Nat) (w : World) (hi : i < 12) (hx : x < 128) (hn : n < 2 ^ (7 * i)) (hm : n ≤ 4611686018427387903) (hc : w.heap[B]? = some (.cells #[.int .i64 (n : Int)] 3 (0, 0))) :
    Calls Try.prog 29 #[.int .i64 (i : Int), .int .i64 (x : Int), .pointer (some ⟨B, 0, none⟩)] w fun e w' =>
      ((4611686018427387903 - n) / 2 ^ (7 * i) < x ∧ e = .returned (.tuple #[.int .i64 0, .bool false]) ∧ w' = w) ∨
      (¬ (4611686018427387903 - n) / 2 ^ (7 * i) < x ∧ e = .returned (.tuple #[.int .i64 ((n + x * 2 ^ (7 * i) : Nat) : Int), .bool true]) ∧ w' = (w.setCell ⟨B, 0, none⟩ (.int .i64 ((n + x * 2 ^ (7 * i) : Nat) : Int))).drew) := by
  have c0 : w.cell? ⟨B, 0, none⟩ = some (.int .i64 (n : Int)) := by simp [World.cell?, hc]
  have f0 : w.frozen? ⟨B, 0, none⟩ = false := by simp [World.frozen?, hc]
  have HC : Hid (w.heap[B]? = some (.cells #[.int .i64 (n : Int)] 3 (0, 0))) := hc
  have hsr := run_shr i (4611686018427387903 - n) hi (by omega)
  rw [show ((4611686018427387903 - n : Nat) : Int) = 4611686018427387903 - (n : Int) by omega] at hsr
  have HSL : Hid (x ≤ (4611686018427387903 - n) / 2 ^ (7 * i) → ∀ W, (Op.shift .shl .i64 (x : Int) .i64 (7 * (i : Int))).run Try.prog W = .ok (.int .i64 ((x * 2 ^ (7 * i) : Nat) : Int)) W) := fun h => run_shl i x n hi hm h
  have HOR : Hid (x ≤ (4611686018427387903 - n) / 2 ^ (7 * i) → bits .or .i64 (n : Int) ((x * 2 ^ (7 * i) : Nat) : Int) = ((n + x * 2 ^ (7 * i) : Nat) : Int)) := fun h => or_high n x (7 * i) hn (by have := le_div_high x n i hm h; omega)
  clear hc hn
  generalize (4611686018427387903 - n) / 2 ^ (7 * i) = q at *
  obtain ⟨y, hy⟩ : ∃ y, x * 2 ^ (7 * i) = y := ⟨_, rfl⟩
  rw [hy] at HSL HOR ⊢
  obtain ⟨z, hz⟩ : ∃ z, n + y = z := ⟨_, rfl⟩
  rw [hz] at HOR ⊢
  clear hy hz
  go_enter Try.func29, Try.ntmps29
  by_cases hgt : q < x
  · go_wp2_with fail
    go_ret2
    exact .inl ⟨hgt, rfl, rfl⟩
  · have hle : x ≤ q := by omega
    have hsl := HSL.out hle
    have hor := HOR.out hle
    go_wp2_with fail
    apply wp_via
    · go_region
      all_goals exact ⟨rfl, rfl, rfl⟩
    have c1 : (w.setCell ⟨B, 0, none⟩ (.int .i64 (z : Int))).drew.cell? ⟨B, 0, none⟩ = some (.int .i64 (z : Int)) := cell_of_row _ _ 0 _ _ ((heap_setCell_same w B 0 _ _ _ HC.out).trans rfl)
    go_wp2_with fail
    go_ret2
    exact .inr ⟨hgt, rfl, rfl⟩
end Go.Proofs.Ytkpnmagcmpljoaa
