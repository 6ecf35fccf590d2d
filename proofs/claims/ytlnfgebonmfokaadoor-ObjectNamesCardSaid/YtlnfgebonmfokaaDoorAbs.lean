/- Absorbing bytes, piece by piece; the closure's state in memory. -/
import Derived.Test.YtlnfgebonmfokaaDoorWork
import Derived.Test.YtlnfgebonmfokaaDoorEnd
namespace Go.Proofs.YtlnfgebonmfokaaDoor
open Go.RowKit Plain
set_option linter.unusedVariables false
theorem absorb_lt (xs : List Int) : ∀ (s : State), s.buf.length + xs.length < 64 → absorb s xs = { h := s.h, buf := s.buf ++ xs } := by
  induction xs with
  | nil => intro s _; simp [absorb]
  | cons x xs ih =>
    intro s h
    simp only [List.length_cons] at h
    have e : Plain.step s x = { h := s.h, buf := s.buf ++ [x] } := by unfold Plain.step; rw [if_neg (by omega)]
    show absorb (Plain.step s x) xs = _
    rw [e, ih _ (by simp; omega)]
    simp
theorem absorb_full (xs : List Int) (s : State) (h : s.buf.length + xs.length = 64) (hlt : s.buf.length < 64) : absorb s xs = { h := compress s.h (s.buf ++ xs), buf := [] } := by
  obtain ⟨ys, x, rfl⟩ : ∃ ys x, xs = ys ++ [x] := by
    rcases List.eq_nil_or_concat xs with rfl | ⟨ys, x, rfl⟩
    · simp at h; omega
    · exact ⟨ys, x, by simp⟩
  simp only [List.length_append, List.length_singleton] at h
  rw [absorb_append, absorb_lt ys s (by omega)]
  show Plain.step _ x = _
  unfold Plain.step
  rw [if_pos (by simp; omega)]
  simp
/-- The work closure's value. -/
def workV (B : Nat) : Value := .func (.func 25) #[] #[.pointer (some ⟨B + 1, 0, none⟩), .pointer (some ⟨B + 2, 0, none⟩), .pointer (some ⟨B + 3, 0, none⟩)]
structure St (w : World) (B : Nat) (s : State) (z : Int) : Prop where
  h : w.heap[B + 1]? = some (.cells (cells5V s.h) 49 (0, 0))
  blk : ∃ bs : List Int, bs.length = 64 ∧ (∀ j : Nat, 0 ≤ bs[j]?.getD 0 ∧ bs[j]?.getD 0 ≤ 255) ∧ bs.take s.buf.length = s.buf ∧ w.heap[B + 2]? = some (.cells (V8 bs) 50 (0, 0))
  fl : w.heap[B + 3]? = some (.cells #[.int .i64 (s.buf.length : Int)] 3 (0, 0))
  sz : w.heap[B + 4]? = some (.cells #[.int .u64 z] 36 (0, 0))
  wk : w.heap[B + 5]? = some (.cells #[workV B] 1 (0, 0))
  lt : s.buf.length < 64
/-- What a call of the closure leaves as it was. -/
structure Kept (B : Nat) (w w' : World) : Prop where
  os : w'.os = w.os
  tape : w'.tape = w.tape
  output : w'.output = w.output
  size : w.heap.size ≤ w'.heap.size
  block : ∀ k, k < w.heap.size → (k < B + 1 ∨ B + 4 < k) → w'.heap[k]? = w.heap[k]?
theorem Kept.refl (B : Nat) (w : World) : Kept B w w := ⟨rfl, rfl, rfl, Nat.le_refl _, fun _ _ _ => rfl⟩
theorem Kept.trans {B : Nat} {a b c : World} (h : Kept B a b) (k : Kept B b c) : Kept B a c :=
  ⟨k.os.trans h.os, k.tape.trans h.tape, k.output.trans h.output, Nat.le_trans h.size k.size, fun i hi ho => (k.block i (Nat.lt_of_lt_of_le hi h.size) ho).trans (h.block i hi ho)⟩
theorem Kept.of_below {B : Nat} {w w' : World} (h : Below w.heap.size w w') : Kept B w w' := ⟨h.os, h.tape, h.output, h.size, fun k hk _ => h.block k hk⟩
theorem Kept.setRow {B : Nat} {w w' : World} (h : Kept B w w') (g : Nat) (h1 : B + 1 ≤ g) (h2 : g ≤ B + 4) (cs : Array Value) : Kept B w (w'.setRow g cs) :=
  ⟨h.os, h.tape, h.output, by rw [setRow_size]; exact h.size, fun k hk ho => (setRow_other w' g k cs (by omega)).trans (h.block k hk ho)⟩
theorem Kept.setCell {B : Nat} {w w' : World} (h : Kept B w w') (g j : Nat) (h1 : B + 1 ≤ g) (h2 : g ≤ B + 4) (v : Value) : Kept B w (w'.setCell ⟨g, j, none⟩ v) :=
  have q : Below g w' (w'.setCell ⟨g, j, none⟩ v) := (Below.refl g w').setCell (Nat.le_refl _) v
  ⟨q.os.trans h.os, q.tape.trans h.tape, q.output.trans h.output, Nat.le_trans h.size q.size, fun k hk ho => (Below.heap_setCell w' _ _ k (by show k ≠ g; omega)).trans (h.block k hk ho)⟩
end Go.Proofs.YtlnfgebonmfokaaDoor
