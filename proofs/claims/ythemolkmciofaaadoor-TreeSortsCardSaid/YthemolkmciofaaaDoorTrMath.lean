/- Trees' entries, plainly: modes and their digits, names, the order. -/
import Derived.Test.YthemolkmciofaaaDoorEnts
namespace Go.Proofs.YthemolkmciofaaaDoor
open Go.RowKit Plain
set_option linter.unusedVariables false
/-- A mode's digits; nothing: it is none. -/
def digitsL (k : Int) : List UInt8 :=
  if k = 16384 then [52, 48, 48, 48, 48] else if k = 33188 then [49, 48, 48, 54, 52, 52] else if k = 33261 then [49, 48, 48, 55, 53, 53] else if k = 40960 then [49, 50, 48, 48, 48, 48] else if k = 57344 then [49, 54, 48, 48, 48, 48] else []
def modeOk (k : Int) : Bool := k == 16384 || k == 33188 || k == 33261 || k == 40960 || k == 57344
def modeOf (l : List UInt8) : Int := if l = [52, 48, 48, 48, 48] then 16384 else if l = [49, 48, 48, 54, 52, 52] then 33188 else if l = [49, 48, 48, 55, 53, 53] then 33261 else if l = [49, 50, 48, 48, 48, 48] then 40960 else if l = [49, 54, 48, 48, 48, 48] then 57344 else 0
theorem modeOk_cases {k : Int} (h : modeOk k = true) : k = 16384 ∨ k = 33188 ∨ k = 33261 ∨ k = 40960 ∨ k = 57344 := by
  unfold modeOk at h
  simp only [Bool.or_eq_true, beq_iff_eq] at h
  rcases h with (((h | h) | h) | h) | h <;> simp [h]
theorem mode_digits {k : Int} (h : modeOk k = true) : modeOf (digitsL k) = k ∧ digitsL k ≠ [] ∧ (32 : UInt8) ∉ digitsL k ∧ (digitsL k).length ≤ 6 := by
  rcases modeOk_cases h with rfl | rfl | rfl | rfl | rfl <;> decide
theorem digits_mode {l : List UInt8} (h : modeOf l ≠ 0) : digitsL (modeOf l) = l ∧ modeOk (modeOf l) = true ∧ l.length ≤ 6 := by
  unfold modeOf at h ⊢
  by_cases h1 : l = [52, 48, 48, 48, 48]
  · subst h1; decide
  by_cases h2 : l = [49, 48, 48, 54, 52, 52]
  · subst h2; decide
  by_cases h3 : l = [49, 48, 48, 55, 53, 53]
  · subst h3; decide
  by_cases h4 : l = [49, 50, 48, 48, 48, 48]
  · subst h4; decide
  by_cases h5 : l = [49, 54, 48, 48, 48, 48]
  · subst h5; decide
  rw [if_neg h1, if_neg h2, if_neg h3, if_neg h4, if_neg h5] at h
  exact absurd rfl h
theorem digits_none {k : Int} (h : modeOk k = false) : digitsL k = [] := by
  unfold modeOk at h
  simp only [Bool.or_eq_false_iff, beq_eq_false_iff_ne] at h
  unfold digitsL
  rw [if_neg h.1.1.1.1, if_neg h.1.1.1.2, if_neg h.1.1.2, if_neg h.1.2, if_neg h.2]
def slash0 (b : UInt8) : Bool := b == 47 || b == 0
def nameOk (l : List UInt8) : Bool := !l.isEmpty && decide (l.length ≤ 255) && !(l == [46]) && !(l == [46, 46]) && !(l.any slash0)
/-- What the order goes by. -/
def keyT (x : TE) : List UInt8 := if x.k = 16384 then x.p.data.toList ++ [47] else x.p.data.toList
theorem cmp_trans : ∀ (a b c : List UInt8), Lib.compareBytes a b < 0 → Lib.compareBytes b c < 0 → Lib.compareBytes a c < 0
  | [], [], c, h, _ => by simp [Lib.compareBytes] at h
  | [], _ :: _, [], _, h => by simp [Lib.compareBytes] at h
  | [], _ :: _, _ :: _, _, _ => by simp [Lib.compareBytes]
  | _ :: _, [], c, h, _ => by simp [Lib.compareBytes] at h
  | _ :: _, _ :: _, [], _, h => by simp [Lib.compareBytes] at h
  | x :: a, y :: b, z :: c, h1, h2 => by
    have ih := cmp_trans a b c
    unfold Lib.compareBytes at h1 h2 ⊢
    by_cases e1 : x < y
    · by_cases e2 : y < z
      · rw [if_pos (UInt8.lt_trans e1 e2)]; omega
      · rw [if_neg e2] at h2
        by_cases e3 : z < y
        · rw [if_pos e3] at h2; omega
        · have : y = z := by
            apply UInt8.toNat_inj.1
            rw [UInt8.lt_iff_toNat_lt] at e2 e3
            omega
          rw [← this, if_pos e1]; omega
    · rw [if_neg e1] at h1
      by_cases e1' : y < x
      · rw [if_pos e1'] at h1; omega
      · rw [if_neg e1'] at h1
        have hxy : x = y := by
          apply UInt8.toNat_inj.1
          rw [UInt8.lt_iff_toNat_lt] at e1 e1'
          omega
        subst hxy
        by_cases e2 : x < z
        · rw [if_pos e2]; omega
        · rw [if_neg e2] at h2 ⊢
          by_cases e3 : z < x
          · rw [if_pos e3] at h2; omega
          · rw [if_neg e3] at h2 ⊢
            exact ih h1 h2
theorem cmp_self : ∀ a : List UInt8, Lib.compareBytes a a = 0
  | [] => rfl
  | x :: a => by
    unfold Lib.compareBytes
    rw [if_neg (UInt8.lt_irrefl x), if_neg (UInt8.lt_irrefl x)]
    exact cmp_self a
/-- Stands the one ahead of the other? -/
def ltB (a b : List UInt8) : Bool := decide (Lib.compareBytes a b < 0)
theorem ltB_trans {a b c : List UInt8} (h1 : ltB a b = true) (h2 : ltB b c = true) : ltB a c = true := decide_eq_true (cmp_trans a b c (of_decide_eq_true h1) (of_decide_eq_true h2))
def entOk (xs : List TE) (i : Nat) (x : TE) : Bool := modeOk x.k && nameOk x.p.data.toList && ((xs.take i).all fun y => !(y.p.data.toList == x.p.data.toList)) && (match i with | 0 => true | j + 1 => match xs[j]? with | some y => ltB (keyT y) (keyT x) | none => true)
def rightT (xs : List TE) : Bool := (List.range xs.length).all fun i => match xs[i]? with | some x => entOk xs i x | none => true
theorem rightT_iff (xs : List TE) : rightT xs = true ↔ ∀ i x, xs[i]? = some x → entOk xs i x = true := by
  unfold rightT
  rw [List.all_eq_true]
  constructor
  · intro h i x hx
    have := h i (List.mem_range.2 (List.getElem?_eq_some_iff.1 hx).1)
    rw [hx] at this
    exact this
  · intro h i hi
    cases hx : xs[i]? with
    | none => rfl
    | some x => exact h i x hx
theorem rightT_bad {xs : List TE} {i : Nat} {x : TE} (h : xs[i]? = some x) (ho : entOk xs i x = false) : rightT xs = false := by
  rw [Bool.eq_false_iff]
  intro hr
  have := (rightT_iff xs).1 hr i x h
  rw [ho] at this
  cases this
theorem rightT_all {xs : List TE} (h : ∀ i x, i < xs.length → xs[i]? = some x → entOk xs i x = true) : rightT xs = true := (rightT_iff xs).2 fun i x hx => h i x (List.getElem?_eq_some_iff.1 hx).1 hx
theorem entOk_mode {xs : List TE} {i : Nat} {x : TE} (h : entOk xs i x = true) : modeOk x.k = true := by
  unfold entOk at h
  simp only [Bool.and_eq_true] at h
  exact h.1.1.1
theorem entOk_name {xs : List TE} {i : Nat} {x : TE} (h : entOk xs i x = true) : nameOk x.p.data.toList = true := by
  unfold entOk at h
  simp only [Bool.and_eq_true] at h
  exact h.1.1.2
theorem right_each {xs : List TE} (h : rightT xs = true) : ∀ x ∈ xs, modeOk x.k = true ∧ nameOk x.p.data.toList = true := fun x hx => by
  obtain ⟨i, hi⟩ := List.mem_iff_getElem?.1 hx
  have := (rightT_iff xs).1 h i x hi
  exact ⟨entOk_mode this, entOk_name this⟩
theorem nameOk_parts {l : List UInt8} (h : nameOk l = true) : l ≠ [] ∧ l.length ≤ 255 ∧ (0 : UInt8) ∉ l := by
  unfold nameOk at h
  simp only [Bool.and_eq_true, Bool.not_eq_true', decide_eq_true_eq] at h
  obtain ⟨⟨⟨⟨h1, h2⟩, h3⟩, h4⟩, h5⟩ := h
  refine ⟨fun e => ?_, h2, fun hm => ?_⟩
  · rw [e] at h1; cases h1
  · have := List.any_eq_false.1 h5 0 hm
    simp [slash0] at this
/-! ### As text -/
def bytesI (n : List Int) : List UInt8 := n.map fun z => UInt8.ofNat z.toNat
def lineT (x : TE) : List UInt8 := digitsL x.k ++ 32 :: (x.p.data.toList ++ 0 :: bytesI x.n)
def textT (xs : List TE) : List UInt8 := xs.flatMap lineT
theorem textT_app (xs ys : List TE) : textT (xs ++ ys) = textT xs ++ textT ys := by unfold textT; rw [List.flatMap_append]
theorem textT_snoc {xs : List TE} {k : Nat} {x : TE} (h : xs[k]? = some x) : textT (xs.take (k + 1)) = textT (xs.take k) ++ lineT x := by
  rw [take_snoc h, textT_app]
  congr 1
  unfold textT; simp
theorem bytesI_len (n : List Int) : (bytesI n).length = n.length := List.length_map _
def BT (n : List Int) : Prop := ∀ z ∈ n, 0 ≤ z ∧ z ≤ 255
theorem bytesI_nums (n : List Int) (h : BT n) : (bytesI n).map (fun b => (b.toNat : Int)) = n := by
  unfold bytesI
  rw [List.map_map]
  conv => rhs; rw [← List.map_id n]
  apply List.map_congr_left
  intro z hz
  have := h z hz
  simp
  omega
theorem lineT_len (x : TE) (hm : modeOk x.k = true) (hn : nameOk x.p.data.toList = true) (h20 : x.n.length = 20) : (lineT x).length ≤ 283 ∧ 24 ≤ (lineT x).length := by
  have h1 := (mode_digits hm).2.2.2
  have h4 := (mode_digits hm).2.1
  have h2 := (nameOk_parts hn).2.1
  have h3 := (nameOk_parts hn).1
  have h5 : 1 ≤ (digitsL x.k).length := by
    cases hd : digitsL x.k with
    | nil => exact absurd hd h4
    | cons a l => simp
  have h6 : 1 ≤ x.p.data.toList.length := by
    cases hd : x.p.data.toList with
    | nil => exact absurd hd h3
    | cons a l => simp
  unfold lineT
  rw [List.length_append, List.length_cons, List.length_append, List.length_cons, bytesI_len, h20]
  omega
theorem textT_len : ∀ (xs : List TE), (∀ x ∈ xs, modeOk x.k = true ∧ nameOk x.p.data.toList = true) → (∀ x ∈ xs, x.n.length = 20) → (textT xs).length ≤ 283 * xs.length
  | [], _, _ => by simp [textT]
  | x :: xs, h, h20 => by
    have h1 := (lineT_len x (h x (by simp)).1 (h x (by simp)).2 (h20 x (by simp))).1
    have h2 := textT_len xs (fun y hy => h y (by simp [hy])) (fun y hy => h20 y (by simp [hy]))
    have e : textT (x :: xs) = lineT x ++ textT xs := by unfold textT; rw [List.flatMap_cons]
    rw [e, List.length_append, List.length_cons]
    omega
end Go.Proofs.YthemolkmciofaaaDoor
