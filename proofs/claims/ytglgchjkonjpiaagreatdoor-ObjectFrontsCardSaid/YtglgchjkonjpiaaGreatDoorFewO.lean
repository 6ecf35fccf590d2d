/- The first bytes: the walk. -/
import Derived.Test.YtglgchjkonjpiaaGreatDoorLooseO
import Derived.Test.YtglgchjkonjpiaaGreatDoorRoomErr
namespace Go.Proofs.YtglgchjkonjpiaaGreatDoor
open Go.RowKit Plain
set_option linter.unusedVariables false
theorem few_any (a : Option Addr) (len cap q : Nat) (hq : min len 600 = q) (hlc : len ≤ cap) (hcm : cap ≤ 9223372036854775807) (w : World) :
    Calls Tryz.prog 7 #[.slice a len cap] w fun e w' => e = .returned (.slice a q cap) ∧ w' = w := by
  have hmn : ∀ (ts : Array TypeId) (t : TypeId) (W : World), (Builtin.min_ ts t #[.int .i64 (len : Int), .int .i64 600]).run Tryz.prog W = .ok (.int .i64 (q : Int)) W := fun ts t W => by
    rw [show (q : Int) = min (len : Int) 600 by omega]; exact run_min2 ts t .i64 .i64 len 600 W
  have hqc : q ≤ cap := by omega
  have sl := fun W => slice_to a len cap q hqc W
  clear hq
  go_enter Tryz.func7, Tryz.ntmps7
  go_wp2_with fail
  go_ret
  exact ⟨rfl, rfl⟩
theorem known_env (w : World) (hE : Env w) : Calls Tryz.prog 10 #[] w fun e w' => e = .returned (.bool true) ∧ Below w.heap.size w w' := known_any w hE.tab
theorem whole_row (k : Int) (a : Option Addr) (m cap : Nat) (xs : List Int) (hm : m ≤ 100000) (w : World) (H : Bytes w a m xs) :
    Calls Tryz.prog 13 #[.int .i64 k, .slice a m cap] w fun e w' => (∃ xa n c, e = .returned (.slice xa n c) ∧ RowB w' xa n c (wholeOf k m xs)) ∧ Below w.heap.size w w' := by
  refine (whole_any k a m cap xs hm w H).mono ?_
  rintro e w' ⟨⟨xa, n, c, rfl, -, h1, h2, h3, h4⟩, hb⟩
  exact ⟨⟨xa, n, c, rfl, h1, h2, h3, h4⟩, hb⟩
theorem open_yes {bs W xs : List Int} {j : Nat} {e : Ending} {w' : World} (h : OpenO bs e w') (h1 : openN bs 16777236 = .ok (bs.length, W)) (h2 : IsObj W j xs) (h3 : xs.length ≤ 600) :
    ∃ (ya : Option Addr) (yl yc : Nat), e = .returned (.tuple #[.int .i64 (j : Int), .slice ya yl yc, .int .i64 0]) ∧ RowB w' ya yl yc xs := by
  rcases h with ⟨q, e1, -, -⟩ | ⟨q, m, e1, e2, -⟩ | ⟨m, q, ys, e1, e2, e3, -⟩ | ⟨m, q, ys, x1, x2, x3, e1, e2, e3, e4⟩
  · rw [h1] at e1; cases e1
  · rw [h1] at e1
    simp only [Except.ok.injEq, Prod.mk.injEq] at e1
    obtain ⟨rfl, rfl⟩ := e1
    rcases e2 with e2 | e2
    · exact absurd rfl e2
    · exact absurd h2 (e2 j xs)
  · rw [h1] at e1
    simp only [Except.ok.injEq, Prod.mk.injEq] at e1
    obtain ⟨-, rfl⟩ := e1
    obtain ⟨-, rfl⟩ := obj_unique h2 e2
    omega
  · rw [h1] at e1
    simp only [Except.ok.injEq, Prod.mk.injEq] at e1
    obtain ⟨-, rfl⟩ := e1
    obtain ⟨rfl, rfl⟩ := obj_unique h2 e2
    exact ⟨x1, x2, x3, e3, e4⟩
theorem open_no {bs W : List Int} {n : Nat} {e : Ending} {w' : World} (h : OpenO bs e w') (h1 : openN bs 16777236 = .ok (n, W)) (h2 : n ≠ bs.length) : e = .returned (.tuple #[.int .i64 0, .slice none 0 0, .int .i64 4]) := by
  rcases h with ⟨q, e1, -, -⟩ | ⟨q, m, e1, e2, e3⟩ | ⟨m, q, ys, e1, e2, e3, -⟩ | ⟨m, q, ys, x1, x2, x3, e1, e2, e3, e4⟩
  · rw [h1] at e1; cases e1
  · exact e3
  · rw [h1] at e1
    simp only [Except.ok.injEq, Prod.mk.injEq] at e1
    exact absurd e1.1 h2
  · rw [h1] at e1
    simp only [Except.ok.injEq, Prod.mk.injEq] at e1
    exact absurd e1.1 h2
theorem word_some (k : Nat) (h1 : 1 ≤ k) (h4 : k ≤ 4) : wordAt (k : Int) ≠ wNone := by
  obtain rfl | rfl | rfl | rfl : k = 1 ∨ k = 2 ∨ k = 3 ∨ k = 4 := by omega
  all_goals decide
end Go.Proofs.YtglgchjkonjpiaaGreatDoor
