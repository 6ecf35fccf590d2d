/- With less room: the same, or too much: errors, too. An object's kind and body are no other's: maths. -/
import Derived.Test.YtglgchjkonjpiaaGreatDoorSplitMath
import Derived.Test.YtglgchjkonjpiaaGreatDoorCut
import Derived.Test.YtglgchjkonjpiaaGreatDoorWrapBack
namespace Go.Proofs.YtglgchjkonjpiaaGreatDoor
set_option linter.unusedVariables false
namespace Plain
/-- The lesser room: the same, or too much. -/
def Lesser {α : Type} (s l : Except Nat α) : Prop := s = l ∨ s = .error 2
theorem lesser_give {most M : Nat} (hM : most ≤ M) (made : List Int) (x : Int) : Lesser (giveN most made x) (giveN M made x) := by
  unfold giveN
  by_cases h : most ≤ made.length
  · exact .inr (if_pos h)
  · rw [if_neg h, if_neg (by omega)]
    exact .inl rfl
theorem lesser_againGo {most M : Nat} (hM : most ≤ M) (d : Nat) : ∀ (k : Nat) (made : List Int), Lesser (againGo most d k made) (againGo M d k made)
  | 0, made => .inl rfl
  | k + 1, made => by
    rw [againGo, againGo]
    rcases lesser_give hM made (made[made.length - d]?.getD 0) with h | h
    · rw [h]
      cases giveN M made (made[made.length - d]?.getD 0) with
      | error e => exact .inl rfl
      | ok m => exact lesser_againGo hM d k m
    · rw [h]
      exact .inr rfl
theorem lesser_again {most M : Nat} (hM : most ≤ M) (made : List Int) (len d : Nat) : Lesser (againN most made len d) (againN M made len d) := by
  unfold againN
  split
  · exact .inl rfl
  · exact lesser_againGo hM d len made
theorem lesser_signsGo {most M : Nat} (hM : most ≤ M) (N L : Nat) (nx fr : Nat → Except Nat (Nat × Nat)) : ∀ (f p : Nat) (made : List Int), Lesser (signsGo N L most nx fr f p made) (signsGo N L M nx fr f p made)
  | 0, p, made => .inl rfl
  | f + 1, p, made => by
    rw [signsGo, signsGo]
    cases nx p with
    | error e => exact .inl rfl
    | ok v =>
      obtain ⟨s, q⟩ := v
      show Lesser (if s < 256 then _ else _) (if s < 256 then _ else _)
      by_cases h1 : s < 256
      · rw [if_pos h1, if_pos h1]
        rcases lesser_give hM made (s : Int) with h | h
        · rw [h]
          cases giveN M made (s : Int) with
          | error e => exact .inl rfl
          | ok m => exact lesser_signsGo hM N L nx fr f q m
        · rw [h]
          exact .inr rfl
      · rw [if_neg h1, if_neg h1]
        by_cases h2 : s = 256
        · rw [if_pos h2, if_pos h2]
          exact .inl rfl
        · rw [if_neg h2, if_neg h2]
          by_cases h3 : 286 ≤ s
          · rw [if_pos h3, if_pos h3]
            exact .inl rfl
          · rw [if_neg h3, if_neg h3]
            cases lengthN N L q s with
            | error e => exact .inl rfl
            | ok v =>
              obtain ⟨len, r⟩ := v
              show Lesser (match fr r with | .error e => .error e | .ok (t, u) => _) (match fr r with | .error e => .error e | .ok (t, u) => _)
              cases fr r with
              | error e => exact .inl rfl
              | ok v =>
                obtain ⟨t, u⟩ := v
                show Lesser (match distN N L u t with | .error e => .error e | .ok (d, v) => _) (match distN N L u t with | .error e => .error e | .ok (d, v) => _)
                cases distN N L u t with
                | error e => exact .inl rfl
                | ok v =>
                  obtain ⟨d, v⟩ := v
                  show Lesser (match againN most made len d with | .error e => .error e | .ok m => _) (match againN M made len d with | .error e => .error e | .ok m => _)
                  rcases lesser_again hM made len d with h | h
                  · rw [h]
                    cases againN M made len d with
                    | error e => exact .inl rfl
                    | ok m => exact lesser_signsGo hM N L nx fr f v m
                  · rw [h]
                    exact .inr rfl
theorem lesser_stored {most M : Nat} (hM : most ≤ M) (bs : List Int) (N L p : Nat) (made : List Int) : Lesser (storedN bs N L most p made) (storedN bs N L M p made) := by
  unfold storedN
  cases num N L (8 * ((p + 7) / 8)) 16 with
  | error e => exact .inl rfl
  | ok v =>
    obtain ⟨n, q⟩ := v
    show Lesser (match num N L q 16 with | .error e => .error e | .ok (m, r) => _) (match num N L q 16 with | .error e => .error e | .ok (m, r) => _)
    cases num N L q 16 with
    | error e => exact .inl rfl
    | ok v =>
      obtain ⟨m, r⟩ := v
      show Lesser (if m + n ≠ 65535 then _ else _) (if m + n ≠ 65535 then _ else _)
      by_cases h1 : m + n ≠ 65535
      · rw [if_pos h1, if_pos h1]
        exact .inl rfl
      · rw [if_neg h1, if_neg h1]
        by_cases h2 : most - made.length < min n (bs.length - r / 8)
        · rw [if_pos h2]
          exact .inr rfl
        · have h3 : ¬ M - made.length < min n (bs.length - r / 8) := by omega
          rw [if_neg h2, if_neg h3]
          exact .inl rfl
theorem lesser_block {most M : Nat} (hM : most ≤ M) (bs : List Int) (N L kind p : Nat) (made : List Int) : Lesser (blockN bs N L most kind p made) (blockN bs N L M kind p made) := by
  unfold blockN
  by_cases h0 : kind = 0
  · rw [if_pos h0, if_pos h0]; exact lesser_stored hM bs N L p made
  · rw [if_neg h0, if_neg h0]
    by_cases h1 : kind = 1
    · rw [if_pos h1, if_pos h1]; exact lesser_signsGo hM N L _ _ _ p made
    · rw [if_neg h1, if_neg h1]
      by_cases h2 : kind = 2
      · rw [if_pos h2, if_pos h2]
        cases ownCodesN N L p with
        | error e => exact .inl rfl
        | ok v =>
          obtain ⟨q, c, d⟩ := v
          exact lesser_signsGo hM N L _ _ _ q made
      · rw [if_neg h2, if_neg h2]
        exact .inl rfl
theorem lesser_rawGo {most M : Nat} (hM : most ≤ M) (bs : List Int) (N L : Nat) : ∀ (f p : Nat) (made : List Int), Lesser (rawGo bs N L most f p made) (rawGo bs N L M f p made)
  | 0, p, made => .inl rfl
  | f + 1, p, made => by
    rw [rawGo, rawGo]
    cases num N L p 1 with
    | error e => exact .inl rfl
    | ok v =>
      obtain ⟨last, q⟩ := v
      show Lesser (match num N L q 2 with | .error e => .error e | .ok (kind, r) => _) (match num N L q 2 with | .error e => .error e | .ok (kind, r) => _)
      cases num N L q 2 with
      | error e => exact .inl rfl
      | ok v =>
        obtain ⟨kind, r⟩ := v
        show Lesser (match blockN bs N L most kind r made with | .error e => .error e | .ok (s, m) => _) (match blockN bs N L M kind r made with | .error e => .error e | .ok (s, m) => _)
        rcases lesser_block hM bs N L kind r made with h | h
        · rw [h]
          cases blockN bs N L M kind r made with
          | error e => exact .inl rfl
          | ok v =>
            obtain ⟨s, m⟩ := v
            show Lesser (if last = 0 then _ else _) (if last = 0 then _ else _)
            by_cases h0 : last = 0
            · rw [if_pos h0, if_pos h0]; exact lesser_rawGo hM bs N L f s m
            · rw [if_neg h0, if_neg h0]; exact .inl rfl
        · rw [h]
          exact .inr rfl
theorem room_same {bs : List Int} {most M : Nat} (hM : most ≤ M) (h : rawOf bs most ≠ .error 2) : rawOf bs M = rawOf bs most := by
  rcases lesser_rawGo hM bs (streamN bs) (8 * bs.length) (8 * bs.length + 1) 0 [] with h1 | h1
  · exact h1.symm
  · exact absurd h1 h
theorem raw_none (M : Nat) : rawOf [] M = .error 3 := by
  unfold rawOf
  show rawGo [] (streamN []) 0 M 1 0 [] = _
  rw [rawGo]
  have : num (streamN []) 0 0 1 = .error 3 := by unfold num; rw [if_neg (by omega)]
  rw [this]
/-- Opened with other room: the same. -/
theorem open_same {bs : List Int} {most M K : Nat} (h1 : most ≤ M) (h2 : most ≤ K) (h : 2 < bs.length → rawOf (bs.drop 2) most ≠ .error 2) : openN bs M = openN bs K := by
  by_cases hl : bs.length < 2
  · rw [openN, openN, if_pos hl, if_pos hl]
  · rw [openN, openN, if_neg hl, if_neg hl]
    have e : rawOf (bs.drop 2) M = rawOf (bs.drop 2) K := by
      by_cases h3 : 2 < bs.length
      · rw [room_same h1 (h h3), room_same h2 (h h3)]
      · have : bs.drop 2 = [] := List.drop_of_length_le (by omega)
        rw [this, raw_none, raw_none]
    rw [e]
theorem wrap_openM {bs : List Int} (hb : ∀ x ∈ bs, 0 ≤ x ∧ x ≤ 255) (h30 : bs.length ≤ 30000) {M : Nat} (hM : bs.length ≤ M) (more : List Int) (hmore : ∀ x ∈ more, 0 ≤ x ∧ x ≤ 255) : openN (wrapN bs ++ more) M = .ok ((wrapN bs).length, bs) := by
  have h := wrap_open hb h30 more hmore
  rw [← h]
  refine (open_same hM (Nat.le_refl _) fun _ => ?_)
  intro h2
  have e : openN (wrapN bs ++ more) bs.length = .error 2 ∨ openN (wrapN bs ++ more) bs.length = .error 3 ∨ openN (wrapN bs ++ more) bs.length = .error 4 := by
    unfold openN
    rw [h2]
    split
    · exact .inr (.inl rfl)
    · split
      · exact .inr (.inr rfl)
      · exact .inl rfl
  rw [h] at e
  rcases e with e | e | e <;> cases e
theorem wrap_cutM {bs : List Int} (hb : ∀ x ∈ bs, 0 ≤ x ∧ x ≤ 255) (h30 : bs.length ≤ 30000) {M : Nat} (hM : bs.length ≤ M) {k : Nat} (hk : k < (wrapN bs).length) : openN ((wrapN bs).take k) M = .error 3 := by
  have h := wrap_cut hb h30 hk
  rw [← h]
  refine (open_same hM (Nat.le_refl _) fun hl => ?_)
  intro h2
  unfold openN at h
  rw [h2, if_neg (by omega)] at h
  split at h
  · cases h
  · cases h
end Plain
open Go.RowKit Plain
theorem obj_unique {xs : List Int} {k k' : Nat} {ys ys' : List Int} (h : IsObj xs k ys) (h' : IsObj xs k' ys') : k = k' ∧ ys = ys' := by
  obtain ⟨h1, h4, e⟩ := h
  obtain ⟨h1', h4', e'⟩ := h'
  rw [whole_parts] at e e'
  have hn := front_no k h1 h4 ys.length
  have hi : xs[(numsOf (wordAt (k : Int)) ++ 32 :: numsOf (⟨(Lib.decDigits ys.length).toArray⟩ : ByteArray)).length]? = some 0 := by
    rw [e, List.getElem?_append_right (Nat.le_refl _), Nat.sub_self]
    rfl
  have ht : xs.take (numsOf (wordAt (k : Int)) ++ 32 :: numsOf (⟨(Lib.decDigits ys.length).toArray⟩ : ByteArray)).length = numsOf (wordAt (k : Int)) ++ 32 :: numsOf (⟨(Lib.decDigits ys.length).toArray⟩ : ByteArray) := by
    rw [e]; exact List.take_left' rfl
  have o1 := obj_first hi (by rw [ht]; exact hn) ⟨h1, h4, by rw [whole_parts]; exact e⟩
  have o2 := obj_first hi (by rw [ht]; exact hn) (k := k') (ys := ys') ⟨h1', h4', by rw [whole_parts]; exact e'⟩
  have hy : ys = ys' := o1.2.symm.trans o2.2
  refine ⟨?_, hy⟩
  have hw := o1.1.symm.trans o2.1
  subst hy
  have hw2 : numsOf (wordAt (k : Int)) = numsOf (wordAt (k' : Int)) := List.append_cancel_right hw
  have hw3 := numsOf_inj hw2
  obtain ⟨j, rfl⟩ : ∃ j, k = j + 1 := ⟨k - 1, by omega⟩
  obtain ⟨j', rfl⟩ : ∃ j, k' = j + 1 := ⟨k' - 1, by omega⟩
  have u1 := kind_first _ j (by omega) rfl
  have u2 := kind_first _ j' (by omega) hw3.symm
  omega
theorem obj_whole {k : Int} {m : Nat} {ys : List Int} (hk : wordAt k ≠ wNone) (hm : ys.length = m) : ∃ j : Nat, k = j ∧ IsObj (wholeOf k m ys) j ys := by
  obtain ⟨j, rfl, h1, h4⟩ : ∃ j : Nat, k = j ∧ 1 ≤ j ∧ j ≤ 4 := by
    unfold wordAt at hk
    split at hk
    · rename_i h; exact ⟨1, h, by omega, by omega⟩
    · split at hk
      · rename_i h; exact ⟨2, h, by omega, by omega⟩
      · split at hk
        · rename_i h; exact ⟨3, h, by omega, by omega⟩
        · split at hk
          · rename_i h; exact ⟨4, h, by omega, by omega⟩
          · exact absurd rfl hk
  exact ⟨j, rfl, h1, h4, by rw [hm]⟩
end Go.Proofs.YtglgchjkonjpiaaGreatDoor
