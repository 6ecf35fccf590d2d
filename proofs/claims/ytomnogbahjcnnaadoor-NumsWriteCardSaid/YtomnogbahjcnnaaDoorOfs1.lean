/- One byte of an offset's row of sevens, and the row: the walks. -/
import Derived.Test.YtomnogbahjcnnaaDoorKnown
import Derived.WalkMore
namespace Go.Proofs.YtomnogbahjcnnaaDoor
open Go.RowKit Plain
set_option linter.unusedVariables false
namespace Plain
/-- The number that an offset's row of sevens begins with: the number, how many bytes it has, the error's number. -/
def ofsGo : List Int → Nat → Nat → Nat × Nat × Nat
  | [], _, _ => (0, 0, 3)
  | x :: t, i, n =>
    if 12 ≤ i ∨ 36028797018963967 < (if 0 < i then n + 1 else n) then (0, 0, 2)
    else if x.toNat < 128 then ((if 0 < i then n + 1 else n) * 128 + x.toNat % 128, i + 1, 0)
    else ofsGo t (i + 1) ((if 0 < i then n + 1 else n) * 128 + x.toNat % 128)
def ofsOf (xs : List Int) : Nat × Nat × Nat := ofsGo xs 0 0
end Plain
theorem or_low7 (n x : Nat) (hx : x < 128) (hs : n * 128 + x < 9223372036854775808) : bits .or .i64 ((n * 128 : Nat) : Int) (x : Int) = ((n * 128 + x : Nat) : Int) := by
  show IntKind.i64.wrap ((BitVec.ofInt 64 _ ||| BitVec.ofInt 64 _ : BitVec 64).toNat : Int) = _
  rw [BitVec.toNat_or, BitVec.toNat_ofInt, BitVec.toNat_ofInt]
  have e1 : (((x : Nat) : Int) % ((2 ^ 64 : Nat) : Int)).toNat = x := by omega
  have e2 : (((n * 128 : Nat) : Int) % ((2 ^ 64 : Nat) : Int)).toNat = n <<< 7 := by rw [Nat.shiftLeft_eq]; omega
  rw [e1, e2, ← Nat.shiftLeft_add_eq_or_of_lt (show x < 2 ^ 7 by omega), Nat.shiftLeft_eq, IntKind.wrap_i64]
  omega
theorem mul_rule128 (n p : Nat) (h : n * 128 = p) : ∀ n' : Int, n' = (n : Int) → n' * 128 = (p : Int) := fun n' hn => by rw [hn, ← h]; simp
/-- What a byte more of an offset's row tells. -/
def Take2 (B : Nat) (w' : World) (m x : Nat) (e : Ending) : Prop :=
  (36028797018963967 < m ∧ e = .returned (.tuple #[.int .i64 0, .bool false])) ∨
  (¬ 36028797018963967 < m ∧ e = .returned (.tuple #[.int .i64 ((m * 128 + x : Nat) : Int), .bool true]) ∧ w'.heap[B]? = some (.cells #[.int .i64 ((m * 128 + x : Nat) : Int)] 3 (0, 0)))
theorem take2_any (i x n B : Nat) (w : World) (hx : x < 128) (hi : i ≤ 1000) (hm : n ≤ 4611686018427387903) (hc : w.heap[B]? = some (.cells #[.int .i64 (n : Int)] 3 (0, 0))) :
    Calls Tryd.prog 30 #[.int .i64 (i : Int), .int .i64 (x : Int), .pointer (some ⟨B, 0, none⟩)] w fun e w' => Below B w w' ∧ Take2 B w' (if 0 < i then n + 1 else n) x e := by
  have c0 : w.cell? ⟨B, 0, none⟩ = some (.int .i64 (n : Int)) := (cell_of_row0 _ _ 0 _ _ hc).trans rfl
  have f0 : w.frozen? ⟨B, 0, none⟩ = false := by simp [World.frozen?, hc]
  have HC : Hid (w.heap[B]? = some (.cells #[.int .i64 (n : Int)] 3 (0, 0))) := hc
  clear hc
  go_enter Tryd.func30, Tryd.ntmps30
  by_cases h0 : 0 < i
  · have h0i : (0 : Int) < i := by omega
    rw [if_pos h0]
    obtain ⟨m, hme⟩ : ∃ m, n + 1 = m := ⟨_, rfl⟩
    rw [hme]
    have hni : ∀ n' : Int, n' = (n : Int) → n' + 1 = (m : Int) := fun n' h => by rw [h, ← hme]; simp
    have hm5 : m ≤ 4611686018427387904 := by omega
    have HW1 : Hid ((w.setCell ⟨B, 0, none⟩ (.int .i64 (m : Int))).heap[B]? = some (.cells #[.int .i64 (m : Int)] 3 (0, 0))) := (heap_setCell_same w B 0 _ _ _ HC.out).trans rfl
    have c1 : (w.setCell ⟨B, 0, none⟩ (.int .i64 (m : Int))).cell? ⟨B, 0, none⟩ = some (.int .i64 (m : Int)) := (cell_of_row0 _ _ 0 _ _ HW1.out).trans rfl
    have f1 : (w.setCell ⟨B, 0, none⟩ (.int .i64 (m : Int))).frozen? ⟨B, 0, none⟩ = false := by simp [World.frozen?, HW1.out]
    clear hme
    by_cases hbig : 36028797018963967 < m
    · have hbi : (36028797018963967 : Int) < m := by omega
      go_wp2_with fail
      go_ret2
      exact ⟨(show Below B w w from Below.refl _ _).setCell (Nat.le_refl _) _, Or.inl ⟨hbig, rfl⟩⟩
    · have hbi : ¬ (36028797018963967 : Int) < m := by omega
      have ho := or_low7 m x hx (by omega)
      obtain ⟨p, hp⟩ : ∃ p, m * 128 = p := ⟨_, rfl⟩
      have hmp := mul_rule128 m p hp
      have hp5 : p ≤ 4611686018427387776 := by omega
      rw [hp] at ho
      obtain ⟨z, hz⟩ : ∃ z, p + x = z := ⟨_, rfl⟩
      rw [hz] at ho
      have HPZ : Hid (m * 128 + x = z) := by show _ = _; rw [hp, hz]
      clear hp hz
      have HW2 : Hid (((w.setCell ⟨B, 0, none⟩ (.int .i64 (m : Int))).setCell ⟨B, 0, none⟩ (.int .i64 (z : Int))).heap[B]? = some (.cells #[.int .i64 (z : Int)] 3 (0, 0))) := (heap_setCell_same _ B 0 _ _ _ HW1.out).trans rfl
      have c2 : ((w.setCell ⟨B, 0, none⟩ (.int .i64 (m : Int))).setCell ⟨B, 0, none⟩ (.int .i64 (z : Int))).cell? ⟨B, 0, none⟩ = some (.int .i64 (z : Int)) := (cell_of_row0 _ _ 0 _ _ HW2.out).trans rfl
      go_wp2_with fail
      go_ret2
      exact ⟨((show Below B w w from Below.refl _ _).setCell (Nat.le_refl _) _).setCell (Nat.le_refl _) _, Or.inr ⟨hbig, by rw [HPZ.out]; rfl, by rw [HPZ.out]; exact HW2.out⟩⟩
  · have h0i : ¬ (0 : Int) < i := by omega
    rw [if_neg h0]
    by_cases hbig : 36028797018963967 < n
    · have hbi : (36028797018963967 : Int) < n := by omega
      go_wp2_with fail
      go_ret2
      exact ⟨Below.refl _ _, Or.inl ⟨hbig, rfl⟩⟩
    · have hbi : ¬ (36028797018963967 : Int) < n := by omega
      have ho := or_low7 n x hx (by omega)
      obtain ⟨p, hp⟩ : ∃ p, n * 128 = p := ⟨_, rfl⟩
      have hmp := mul_rule128 n p hp
      have hp5 : p ≤ 4611686018427387776 := by omega
      rw [hp] at ho
      obtain ⟨z, hz⟩ : ∃ z, p + x = z := ⟨_, rfl⟩
      rw [hz] at ho
      have HPZ : Hid (n * 128 + x = z) := by show _ = _; rw [hp, hz]
      clear hp hz
      have HW2 : Hid ((w.setCell ⟨B, 0, none⟩ (.int .i64 (z : Int))).heap[B]? = some (.cells #[.int .i64 (z : Int)] 3 (0, 0))) := (heap_setCell_same _ B 0 _ _ _ HC.out).trans rfl
      have c2 : (w.setCell ⟨B, 0, none⟩ (.int .i64 (z : Int))).cell? ⟨B, 0, none⟩ = some (.int .i64 (z : Int)) := (cell_of_row0 _ _ 0 _ _ HW2.out).trans rfl
      go_wp2_with fail
      go_ret2
      exact ⟨(show Below B w w from Below.refl _ _).setCell (Nat.le_refl _) _, Or.inr ⟨hbig, by rw [HPZ.out]; rfl, by rw [HPZ.out]; exact HW2.out⟩⟩
end Go.Proofs.YtomnogbahjcnnaaDoor
