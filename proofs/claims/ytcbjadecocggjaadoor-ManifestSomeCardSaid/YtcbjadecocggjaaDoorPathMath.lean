/- Paths: their parts; which are right: plainly. -/
import Derived.Test.YtcbjadecocggjaaDoorV8
import Derived.Test.YtcbjadecocggjaaDoorShelf
import Derived.Lib.Split
import Derived.Lib.IndexAny
namespace Go.Proofs.YtcbjadecocggjaaDoor
open Go.RowKit Plain
set_option linter.unusedVariables false
/-- What stands between slashes. -/
def partsL : List UInt8 → List (List UInt8)
  | [] => [[]]
  | b :: l => if b = 47 then [] :: partsL l else (b :: (partsL l).headD []) :: (partsL l).tail
theorem partsL_slash (l : List UInt8) : partsL (47 :: l) = [] :: partsL l := by rw [partsL, if_pos rfl]
theorem partsL_other (b : UInt8) (l : List UInt8) (h : b ≠ 47) : partsL (b :: l) = (b :: (partsL l).headD []) :: (partsL l).tail := by rw [partsL, if_neg h]
theorem partsL_ne : ∀ l : List UInt8, partsL l ≠ []
  | [] => by simp [partsL]
  | b :: l => by unfold partsL; split <;> simp
theorem partsL_none : ∀ {l : List UInt8}, (∀ b ∈ l, b ≠ 47) → partsL l = [l]
  | [], _ => rfl
  | b :: l, h => by
    unfold partsL
    rw [if_neg (h b (by simp)), partsL_none (l := l) fun x hx => h x (by simp [hx])]
    rfl
theorem partsL_hit : ∀ {l : List UInt8} {i : Nat}, l[i]? = some 47 → (∀ j, j < i → l[j]? ≠ some 47) → partsL l = l.take i :: partsL (l.drop (i + 1))
  | [], i, h, _ => by simp at h
  | b :: l, 0, h, _ => by
    have hb : b = 47 := by simpa using h
    subst hb
    rw [partsL_slash]
    rfl
  | b :: l, i + 1, h, hn => by
    have hb : b ≠ 47 := fun e => hn 0 (by omega) (by rw [e]; rfl)
    have ih := partsL_hit (l := l) (i := i) (by simpa using h) fun j hj => by
      have := hn (j + 1) (by omega)
      simpa using this
    rw [partsL_other b l hb, ih]
    rfl
theorem occ_iff (l : List UInt8) (i : Nat) : Lib.occAt l [47] i = true ↔ l[i]? = some 47 := by
  unfold Lib.occAt
  by_cases h : i < l.length
  · rw [List.drop_eq_getElem_cons h, List.getElem?_eq_getElem h]
    simp only [List.isPrefixOf, Bool.and_true, beq_iff_eq, Option.some.injEq]
    exact eq_comm
  · rw [List.drop_eq_nil_of_le (by omega), List.getElem?_eq_none (by omega)]
    simp [List.isPrefixOf]
theorem split_parts : ∀ (n : Nat) (l : List UInt8), l.length ≤ n → Lib.split l [47] = partsL l := by
  intro n
  induction n with
  | zero =>
    intro l hl
    obtain rfl : l = [] := List.eq_nil_of_length_eq_zero (by omega)
    rfl
  | succ n ih =>
    intro l hl
    unfold Lib.split
    rcases Lib.index_spec l [47] with ⟨h, hn⟩ | ⟨i, h, hi, ho, hn⟩
    · rw [Lib.count_miss h]
      rw [partsL_none]
      · rfl
      · intro b hb e
        subst e
        obtain ⟨j, hj, e⟩ := List.mem_iff_getElem.1 hb
        have := hn j (by omega)
        rw [(occ_iff l j).2 (by rw [List.getElem?_eq_getElem hj, e])] at this
        cases this
    · have hi2 := (occ_iff l i).1 ho
      have hil := (List.getElem?_eq_some_iff.1 hi2).1
      rw [Lib.count_hit (by simp) h, Nat.add_comm]
      unfold Lib.splitK
      have hm : ¬ (Lib.index l [47] == -1) = true := fun e => by have := beq_iff_eq.1 e; omega
      rw [if_neg hm, h, partsL_hit hi2 fun j hj e => by
        have := hn j hj
        rw [(occ_iff l j).2 e] at this
        cases this]
      have := ih (l.drop (i + 1)) (by rw [List.length_drop]; omega)
      unfold Lib.split at this
      simp only [Int.toNat_natCast, Nat.add_zero, List.length_singleton]
      rw [this]
theorem splitB_parts (s : ByteArray) : (Lib.splitB ⟨#[47]⟩ 0 (Lib.countB s ⟨#[47]⟩) s).map (·.data.toList) = partsL s.data.toList := by
  rw [Lib.splitB_data]
  exact split_parts _ _ (Nat.le_refl _)
theorem partsL_snoc : ∀ (l : List UInt8) (b : UInt8) (ps : List (List UInt8)) (q : List UInt8), partsL l = ps ++ [q] → partsL (l ++ [b]) = if b = 47 then ps ++ [q, []] else ps ++ [q ++ [b]]
  | [], b, ps, q, h => by
    have : ps = [] ∧ q = [] := by
      cases ps with
      | nil => simp [partsL] at h; exact ⟨rfl, h⟩
      | cons x ps => simp [partsL] at h
    obtain ⟨rfl, rfl⟩ := this
    show partsL [b] = _
    unfold partsL
    split <;> rfl
  | x :: l, b, ps, q, h => by
    obtain ⟨ps', q', hpq⟩ : ∃ ps' q', partsL l = ps' ++ [q'] := by
      rcases List.eq_nil_or_concat (partsL l) with e | ⟨a, c, e⟩
      · exact absurd e (partsL_ne l)
      · exact ⟨a, c, by simpa using e⟩
    have ih := partsL_snoc l b ps' q' hpq
    rw [List.cons_append]
    unfold partsL at h ⊢
    by_cases hx : x = 47
    · rw [if_pos hx, hpq] at h
      rw [if_pos hx, ih]
      have h2 : ([] :: ps') ++ [q'] = ps ++ [q] := by simpa using h
      obtain ⟨e1, e2⟩ := List.append_inj' h2 rfl
      have e3 : q' = q := by simpa using e2
      subst e1 e3
      split <;> rfl
    · rw [if_neg hx, hpq] at h
      rw [if_neg hx, ih]
      cases ps' with
      | nil =>
        have h2 : [x :: q'] = ps ++ [q] := h
        have : ps = [] ∧ q = x :: q' := by
          cases ps with
          | nil => simp at h2; exact ⟨rfl, h2.symm⟩
          | cons y ps => simp at h2
        obtain ⟨rfl, rfl⟩ := this
        split <;> rfl
      | cons y ps'' =>
        have h2 : ((x :: y) :: ps'') ++ [q'] = ps ++ [q] := by simpa using h
        obtain ⟨e1, e2⟩ := List.append_inj' h2 rfl
        have e3 : q' = q := by simpa using e2
        subst e1 e3
        split <;> rfl
def badPart (p : List UInt8) : Bool := p == [] || p == [46] || p == [46, 46]
def oddByte (b : UInt8) : Bool := b == 0 || b == 10 || b == 13
/-- Is that a path? -/
def rightL (l : List UInt8) : Bool := decide (l.length ≤ 255) && !l.any oddByte && !(partsL l).any badPart
theorem any_idx (l : List UInt8) : Lib.containsAny l [0, 10, 13] = l.any oddByte := by
  unfold Lib.containsAny
  induction l with
  | nil => rfl
  | cons b l ih =>
    have hc : ([0, 10, 13] : List UInt8).contains b = oddByte b := by
      unfold oddByte
      simp only [List.contains_cons, List.contains_nil, Bool.or_false, Bool.or_assoc]
    have hge := Lib.indexAny_ge [0, 10, 13] l
    unfold Lib.indexAny
    rw [List.any_cons, hc, ← ih]
    cases h : oddByte b
    · simp only [Bool.false_eq_true, if_false, Bool.false_or]
      split
      · rename_i e
        rw [beq_iff_eq.1 e]
      · rename_i e
        have : Lib.indexAny l [0, 10, 13] ≠ -1 := fun e2 => e (beq_iff_eq.2 e2)
        rw [decide_eq_decide]
        omega
    · simp
end Go.Proofs.YtcbjadecocggjaaDoor
