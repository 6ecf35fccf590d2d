/- Frames that are opened, plainly. -/
import Derived.Test.YtglgchjkonjpiaaGreatDoorZB
import Derived.Test.YtglgchjkonjpiaaGreatDoorOpen
/-! Frames that are opened, plainly. -/
namespace Go.Proofs.YtglgchjkonjpiaaGreatDoor
set_option linter.unusedVariables false
deriving instance DecidableEq for Except
namespace Plain
theorem more_keep {b more : List Int} {M q : Nat} {m : List Int} (hb : ∀ x ∈ b, 0 ≤ x ∧ x ≤ 255) (hmore : ∀ x ∈ more, 0 ≤ x ∧ x ≤ 255) (h : rawOf b M = .ok (q, m)) : rawOf (b.take ((q + 7) / 8) ++ more) M = .ok (q, m) := by
  have hq := rawGo_last _ _ _ _ _ h
  have hn : (q + 7) / 8 ≤ b.length := by omega
  have h1 : rawOf (b.take ((q + 7) / 8)) M = .ok (q, m) := by
    rcases cut_rawOf b hb ((q + 7) / 8) hn M with e | ⟨-, e⟩
    · rw [e]; exact h
    · have := e _ h
      simp only at this
      omega
  have hl : (b.take ((q + 7) / 8)).length = (q + 7) / 8 := by rw [List.length_take]; omega
  have ht : (b.take ((q + 7) / 8) ++ more).take ((q + 7) / 8) = b.take ((q + 7) / 8) := by
    rw [List.take_append_of_le_length (by omega), List.take_take, Nat.min_self]
  rcases cut_rawOf (b.take ((q + 7) / 8) ++ more) (fun x hx => (List.mem_append.1 hx).elim (fun h => hb x (List.mem_of_mem_take h)) (hmore x)) ((q + 7) / 8) (by rw [List.length_append]; omega) M with e | ⟨e, -⟩
  · rw [ht, h1] at e; exact e.symm
  · rw [ht, h1] at e; cases e
/-- A frame of packed bytes of any kind, with its sum. -/
theorem open_frame {x y : Int} {p m more : List Int} {M q : Nat} (hxy : frontN x y = true) (hq : (q + 7) / 8 = p.length) (h : rawOf (p ++ (tail4 m ++ more)) M = .ok (q, m)) :
    openN (x :: y :: p ++ tail4 m ++ more) M = .ok (2 + p.length + 4, m) := by
  have e : x :: y :: p ++ tail4 m ++ more = x :: y :: (p ++ (tail4 m ++ more)) := by simp
  have ht : (tail4 m).length = 4 := rfl
  rw [e, openN, if_neg (by simp)]
  have e0 : (x :: y :: (p ++ (tail4 m ++ more)))[0]?.getD 0 = x := rfl
  have e1 : (x :: y :: (p ++ (tail4 m ++ more)))[1]?.getD 0 = y := rfl
  have e2 : (x :: y :: (p ++ (tail4 m ++ more))).drop 2 = p ++ (tail4 m ++ more) := rfl
  have e3 : (x :: y :: (p ++ (tail4 m ++ more))).drop (2 + p.length) = tail4 m ++ more := by
    rw [← List.drop_drop, e2, List.drop_left]
  rw [e0, e1, hxy, if_neg (by simp), e2, h, openBehind, hq, if_neg (by simp [ht]; omega), e3, if_neg]
  rw [List.take_append_of_le_length (by rw [ht]; exact Nat.le_refl _), List.take_of_length_le (by rw [ht]; exact Nat.le_refl _)]
  simp
theorem known_o1 : openN [120, 156, 75, 4, 0, 0, 98, 0, 98] 9 = .ok (9, [97]) := by decide +kernel
theorem known_o2 : openN [120, 156, 75, 4, 0, 0, 98, 0, 99] 9 = .error 5 := by decide +kernel
end Plain
end Go.Proofs.YtglgchjkonjpiaaGreatDoor
/-! Frames that are opened: what a frame's wrapping hangs on. -/
namespace Go.Proofs.YtglgchjkonjpiaaGreatDoor
end Go.Proofs.YtglgchjkonjpiaaGreatDoor
