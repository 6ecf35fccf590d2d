/- The document's unpacking, plainly: bytes as they are; one block and what follows, in steps that may end. -/
import Derived.Test.YtkminkeaeclanaaRefKeep
namespace Go.Proofs.Ytkminkeaeclanaa
open Go.RowKit Plain
set_option linter.unusedVariables false
/-- So many bytes, one by one. -/
def bgo (N L most : Nat) : Nat → Nat → List Int → Except Nat (Nat × List Int)
  | 0, r, made => .ok (r, made)
  | k + 1, r, made => bindE (num N L r 8) fun v => bindE (giveN most made (v.1 : Int)) fun m => bgo N L most k v.2 m
def stBody (bs : List Int) (most n r : Nat) (made : List Int) : Except Nat (Nat × List Int) :=
  if most - made.length < min n (bs.length - r / 8) then .error 2
  else if bs.length - r / 8 < n then .error 3
  else .ok (r + 8 * n, made ++ (bs.drop (r / 8)).take n)
theorem body_bgo (bs : List Int) (hb : ∀ x ∈ bs, 0 ≤ x ∧ x ≤ 255) (most : Nat) : ∀ (n r : Nat) (made : List Int), r % 8 = 0 → r ≤ 8 * bs.length → stBody bs most n r made = bgo (streamN bs) (8 * bs.length) most n r made
  | 0, r, made, h1, h2 => by
    unfold stBody bgo
    rw [if_neg (by omega), if_neg (by omega)]
    simp
  | n + 1, r, made, h1, h2 => by
    rw [bgo]
    by_cases hl : r + 8 ≤ 8 * bs.length
    · have hj : r / 8 < bs.length := by omega
      have hv : streamN bs / 2 ^ r % 2 ^ 8 = (bs[r / 8]?.getD 0).toNat := by
        have := stream_at bs hb (r / 8)
        rw [show 8 * (r / 8) = r by omega] at this
        exact this
      have hnum : num (streamN bs) (8 * bs.length) r 8 = .ok ((bs[r / 8]?.getD 0).toNat, r + 8) := by
        unfold num
        rw [if_pos hl, hv]
      have hx : 0 ≤ bs[r / 8]?.getD 0 := by
        rw [List.getElem?_eq_getElem hj]
        exact (hb _ (List.getElem_mem hj)).1
      rw [hnum]
      show _ = bindE (giveN most made _) _
      unfold giveN
      by_cases hm : most ≤ made.length
      · rw [if_pos hm]
        unfold stBody
        rw [if_pos (by omega)]
        rfl
      · rw [if_neg hm]
        show _ = bgo _ _ _ n (r + 8) (made ++ [(((bs[r / 8]?.getD 0).toNat : Nat) : Int)])
        rw [← body_bgo bs hb most n (r + 8) _ (by omega) hl, Int.toNat_of_nonneg hx]
        unfold stBody
        rw [List.length_append, List.length_singleton, show (r + 8) / 8 = r / 8 + 1 by omega]
        by_cases c1 : most - made.length < min (n + 1) (bs.length - r / 8)
        · rw [if_pos c1, if_pos (by omega)]
        · have c1' : ¬ most - (made.length + 1) < min n (bs.length - (r / 8 + 1)) := by omega
          rw [if_neg c1, if_neg c1']
          by_cases c2 : bs.length - r / 8 < n + 1
          · have c2' : bs.length - (r / 8 + 1) < n := by omega
            rw [if_pos c2, if_pos c2']
          · have c2' : ¬ bs.length - (r / 8 + 1) < n := by omega
            rw [if_neg c2, if_neg c2']
            rw [show r + 8 * (n + 1) = r + 8 + 8 * n by omega]
            congr 2
            rw [List.append_assoc]
            congr 1
            rw [List.drop_eq_getElem_cons hj, List.take_succ_cons, List.getElem?_eq_getElem hj]
            rfl
    · have hnum : num (streamN bs) (8 * bs.length) r 8 = .error 3 := by
        unfold num
        rw [if_neg hl]
      rw [hnum]
      unfold stBody
      rw [if_neg (by omega), if_pos (by omega)]
      rfl
def st2 (N L most : Nat) (made : List Int) (n : Nat) (x : Nat × Nat) : Except Nat (Nat × List Int) := if x.1 + n ≠ 65535 then .error 4 else bgo N L most n x.2 made
def st1 (N L most : Nat) (made : List Int) (x : Nat × Nat) : Except Nat (Nat × List Int) := bindE (num N L x.2 16) (st2 N L most made x.1)
theorem stored_eq (bs : List Int) (hb : ∀ x ∈ bs, 0 ≤ x ∧ x ≤ 255) (most p : Nat) (made : List Int) : storedN bs (streamN bs) (8 * bs.length) most p made = bindE (num (streamN bs) (8 * bs.length) (8 * ((p + 7) / 8)) 16) (st1 (streamN bs) (8 * bs.length) most made) := by
  unfold storedN bindE
  cases h1 : num (streamN bs) (8 * bs.length) (8 * ((p + 7) / 8)) 16 with
  | error e => rfl
  | ok v =>
    obtain ⟨n, q⟩ := v
    have a1 := num_ok h1
    simp only []
    unfold st1 bindE
    cases h2 : num (streamN bs) (8 * bs.length) q 16 with
    | error e => rfl
    | ok v =>
      obtain ⟨m, r⟩ := v
      have a2 := num_ok h2
      simp only []
      unfold st2
      by_cases h3 : m + n ≠ 65535
      · rw [if_pos h3, if_pos h3]
      · rw [if_neg h3, if_neg h3, ← body_bgo bs hb most n r made (by omega) a2.2.2]
        rfl
def rw3 (bs : List Int) (N most : Nat) (last : Nat) (x : Nat × List Int) : Except Nat (Nat × List Int) := if last = 0 then rawAt bs N most x.1 x.2 else .ok x
def rw2 (bs : List Int) (N most : Nat) (made : List Int) (last : Nat) (x : Nat × Nat) : Except Nat (Nat × List Int) := bindE (blockN bs N (8 * bs.length) most x.1 x.2 made) (rw3 bs N most last)
def rw1 (bs : List Int) (N most : Nat) (made : List Int) (x : Nat × Nat) : Except Nat (Nat × List Int) := bindE (num N (8 * bs.length) x.2 2) (rw2 bs N most made x.1)
theorem raw_eq {bs : List Int} {N most p : Nat} {made : List Int} (hp : p ≤ 8 * bs.length) : rawAt bs N most p made = bindE (num N (8 * bs.length) p 1) (rw1 bs N most made) := by
  rw [rawAt_step hp]
  unfold stepR bindE
  cases num N (8 * bs.length) p 1 with
  | error e => rfl
  | ok v =>
    obtain ⟨l, q⟩ := v
    simp only []
    unfold rw1 bindE
    cases num N (8 * bs.length) q 2 with
    | error e => rfl
    | ok v =>
      obtain ⟨k, r⟩ := v
      simp only []
      unfold rw2 bindE
      cases blockN bs N (8 * bs.length) most k r made with
      | error e => rfl
      | ok v => rfl
end Go.Proofs.Ytkminkeaeclanaa
