/- The program's Open of objects and the document's tell the same. -/
import Derived.Test.YtglgchjkonjpiaaGreatDoorRefO
namespace Go.Proofs.YtglgchjkonjpiaaGreatDoor
open Go.RowKit Plain
set_option linter.unusedVariables false
theorem openO_shape {bs : List Int} {e : Ending} {w' : World} (h : OpenO bs e w') : ∃ (k : Int) (a : Option Addr) (n c : Nat) (er : Int), e = .returned (.tuple #[.int .i64 k, .slice a n c, .int .i64 er]) := by
  rcases h with ⟨q, -, -, h⟩ | ⟨q, m, -, -, h⟩ | ⟨m, q, ys, -, -, -, h⟩ | ⟨m, q, ys, x1, x2, x3, -, -, h, -⟩
  · exact ⟨_, _, _, _, _, h⟩
  · exact ⟨_, _, _, _, _, h⟩
  · exact ⟨_, _, _, _, _, h⟩
  · exact ⟨_, _, _, _, _, h⟩
theorem row_nil (w : World) : RowB w none 0 0 [] := ⟨Nat.le_refl _, by omega, fun _ => rfl, rfl, by omega, fun j => by simp, .inl rfl⟩
theorem tuple3 {k k' er er' : Int} {a a' : Option Addr} {n n' c c' : Nat} (h : Ending.returned (.tuple #[.int .i64 k, .slice a n c, .int .i64 er]) = Ending.returned (.tuple #[.int .i64 k', .slice a' n' c', .int .i64 er'])) : k = k' ∧ a = a' ∧ n = n' ∧ c = c' ∧ er = er' := by
  simp only [Ending.returned.injEq, Value.tuple.injEq, Array.mk.injEq, List.cons.injEq, Value.int.injEq, true_and, Value.slice.injEq, and_true] at h
  obtain ⟨h1, ⟨h2, h3, h4⟩, h5⟩ := h
  exact ⟨h1, h2, h3, h4, h5⟩
theorem both_same {bs : List Int} {k er : Int} {a : Option Addr} {n c : Nat} {w1 w2 : World} {e' : Ending} (h : OpenO bs (.returned (.tuple #[.int .i64 k, .slice a n c, .int .i64 er])) w1) (h' : RefO bs e' w2) (hs : openN bs 16777236 = openN bs 100000) :
    ∃ (zs : List Int) (a' : Option Addr) (n' c' : Nat), e' = .returned (.tuple #[.int .i64 k, .slice a' n' c', .int .i64 er]) ∧ RowB w1 a n c zs ∧ RowB w2 a' n' c' zs := by
  rcases h with ⟨q, e1, -, h⟩ | ⟨q, m, e1, e2, h⟩ | ⟨m, q, ys, e1, e2, e3, h⟩ | ⟨m, q, ys, x1, x2, x3, e1, e2, h, e4⟩
  · obtain ⟨rfl, rfl, rfl, rfl, rfl⟩ := tuple3 h
    rw [hs] at e1
    rcases h' with ⟨q', f1, -, h'⟩ | ⟨q', m', f1, -⟩ | ⟨m', q', ys', y1, y2, y3, f1, -⟩
    · rw [e1] at f1
      injection f1 with f1
      subst f1
      exact ⟨[], none, 0, 0, h', row_nil _, row_nil _⟩
    · rw [e1] at f1; cases f1
    · rw [e1] at f1; cases f1
  · obtain ⟨rfl, rfl, rfl, rfl, rfl⟩ := tuple3 h
    rw [hs] at e1
    rcases h' with ⟨q', f1, -, h'⟩ | ⟨q', m', f1, -, h'⟩ | ⟨m', q', ys', y1, y2, y3, f1, -, f2, -⟩
    · rw [e1] at f1; cases f1
    · exact ⟨[], none, 0, 0, h', row_nil _, row_nil _⟩
    · rw [e1] at f1
      simp only [Except.ok.injEq, Prod.mk.injEq] at f1
      obtain ⟨rfl, rfl⟩ := f1
      rcases e2 with e2 | e2
      · exact absurd rfl e2
      · exact absurd f2 (e2 _ _)
  · rw [hs] at e1
    rcases h' with ⟨q', f1, -, h'⟩ | ⟨q', m', f1, f2, h'⟩ | ⟨m', q', ys', y1, y2, y3, f1, f3, f2, -⟩
    · rw [e1] at f1; cases f1
    · rw [e1] at f1
      simp only [Except.ok.injEq, Prod.mk.injEq] at f1
      obtain ⟨rfl, rfl⟩ := f1
      rcases f2 with f2 | f2
      · exact absurd rfl f2
      · exact absurd e2 (f2 _ _)
    · rw [e1] at f1
      simp only [Except.ok.injEq, Prod.mk.injEq] at f1
      obtain ⟨-, rfl⟩ := f1
      obtain ⟨j, -, rfl⟩ := obj_part e2
      rw [List.length_drop] at e3
      omega
  · obtain ⟨rfl, rfl, rfl, rfl, rfl⟩ := tuple3 h
    rw [hs] at e1
    rcases h' with ⟨q', f1, -, h'⟩ | ⟨q', m', f1, f2, h'⟩ | ⟨m', q', ys', y1, y2, y3, f1, f3, f2, h', f4⟩
    · rw [e1] at f1; cases f1
    · rw [e1] at f1
      simp only [Except.ok.injEq, Prod.mk.injEq] at f1
      obtain ⟨rfl, rfl⟩ := f1
      rcases f2 with f2 | f2
      · exact absurd rfl f2
      · exact absurd e2 (f2 _ _)
    · rw [e1] at f1
      simp only [Except.ok.injEq, Prod.mk.injEq] at f1
      obtain ⟨-, rfl⟩ := f1
      obtain ⟨rfl, rfl⟩ := obj_unique e2 f2
      exact ⟨ys, y1, y2, y3, h', e4, f4⟩
end Go.Proofs.YtglgchjkonjpiaaGreatDoor
