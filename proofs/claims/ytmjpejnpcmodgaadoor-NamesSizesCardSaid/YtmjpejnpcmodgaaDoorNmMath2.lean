/- Names: their bytes, their sizes, what stands ahead; plainly. -/
import Derived.Test.YtmjpejnpcmodgaaDoorNmMath
namespace Go.Proofs.YtmjpejnpcmodgaaDoor
open Go.RowKit Plain
set_option linter.unusedVariables false
def okB (b : UInt8) : Bool := decide (32 ≤ b.toNat) && decide (b.toNat ≤ 126) && !(decide (65 ≤ b.toNat) && decide (b.toNat ≤ 90))
theorem tok_facts (c : UInt8) : (tokB c).all okB = true ∧ (byNum c).all okB = true ∧ (tokB c).length ≤ 3 ∧ 1 ≤ (tokB c).length ∧ (c ≠ 47 → (47 : UInt8) ∉ tokB c) ∧ (47 : UInt8) ∉ byNum c := by
  have h := all_bytes (P := fun c => (tokB c).all okB && (byNum c).all okB && decide ((tokB c).length ≤ 3) && decide (1 ≤ (tokB c).length) && (c == 47 || !(tokB c).contains 47) && !(byNum c).contains 47) (by decide +kernel) c
  simp only [Bool.and_eq_true, Bool.or_eq_true, decide_eq_true_eq, Bool.not_eq_true', beq_iff_eq] at h
  obtain ⟨⟨⟨⟨⟨h1, h2⟩, h3⟩, h4⟩, h5⟩, h6⟩ := h
  refine ⟨h1, h2, h3, h4, fun hc hm => ?_, fun hm => ?_⟩
  · rcases h5 with h5 | h5
    · exact hc h5
    · rw [List.contains_iff_mem.2 hm] at h5; cases h5
  · rw [List.contains_iff_mem.2 hm] at h6; cases h6
theorem toks_mem {p : List UInt8} {l : List (List UInt8)} (h : AllTok p l) {t : List UInt8} (ht : t ∈ l) : ∃ c, c ∈ p ∧ Tok c t := by
  obtain ⟨i, hi⟩ := List.mem_iff_getElem?.1 ht
  have hil := (List.getElem?_eq_some_iff.1 hi).1
  have hip : i < p.length := by rw [← h.1]; exact hil
  exact ⟨p[i], List.getElem_mem hip, h.2 i _ t (List.getElem?_eq_getElem hip) hi⟩
theorem told_ok (x : List UInt8) : ∀ b ∈ toldL x, okB b = true := fun b hb => by
  obtain ⟨t, ht, hbt⟩ := List.mem_flatten.1 hb
  obtain ⟨c, -, rfl | rfl⟩ := toks_mem (toks3_all x) ht
  · exact List.all_eq_true.1 (tok_facts c).1 b hbt
  · exact List.all_eq_true.1 (tok_facts c).2.1 b hbt
theorem told_noslash {x : List UInt8} (h : ∀ b ∈ x, b ≠ 47) : (47 : UInt8) ∉ toldL x := fun hb => by
  obtain ⟨t, ht, hbt⟩ := List.mem_flatten.1 hb
  obtain ⟨c, hc, rfl | rfl⟩ := toks_mem (toks3_all x) ht
  · exact (tok_facts c).2.2.2.2.1 (h c hc) hbt
  · exact (tok_facts c).2.2.2.2.2 hbt
theorem join_mem (c : UInt8) : ∀ (ps : List (List UInt8)) (P : UInt8 → Prop), P c → (∀ x ∈ ps, ∀ b ∈ x, P b) → ∀ b ∈ Lib.join ps [c], P b
  | [], P, _, _, b, hb => by rw [Lib.join_nil] at hb; cases hb
  | [x], P, _, h, b, hb => by rw [Lib.join_one] at hb; exact h x (by simp) b hb
  | x :: y :: r, P, hc, h, b, hb => by
    have e : Lib.join (x :: y :: r) [c] = x ++ c :: Lib.join (y :: r) [c] := by
      rw [Lib.join_cons, Lib.join_cons]
      simp [Lib.joinTail]
    rw [e] at hb
    rcases List.mem_append.1 hb with hb | hb
    · exact h x (by simp) b hb
    · rcases List.mem_cons.1 hb with rfl | hb
      · exact hc
      · exact join_mem c (y :: r) P hc (fun u hu => h u (List.mem_cons_of_mem _ hu)) b hb
theorem name_ok (p : List UInt8) : ∀ b ∈ nameL p, okB b = true := fun b hb => by
  unfold nameL at hb
  rcases List.mem_append.1 hb with hb | hb
  · rcases List.mem_append.1 hb with hb | hb
    · exact List.all_eq_true.1 (show frontL.all okB = true by decide) b hb
    · refine join_mem 47 _ (fun b => okB b = true) (by decide) (fun x hx => ?_) b hb
      obtain ⟨y, -, rfl⟩ := List.mem_map.1 hx
      exact told_ok y
  · exact List.all_eq_true.1 (show ([46, 105] : List UInt8).all okB = true by decide) b hb
/-! ### Sizes -/
theorem flat_le : ∀ l : List (List UInt8), (∀ t ∈ l, t.length ≤ 3) → l.flatten.length ≤ 3 * l.length
  | [], _ => by simp
  | t :: l, h => by
    have := flat_le l fun u hu => h u (List.mem_cons_of_mem _ hu)
    have := h t (by simp)
    rw [List.flatten_cons, List.length_append, List.length_cons]; omega
theorem flat_ge : ∀ l : List (List UInt8), (∀ t ∈ l, 1 ≤ t.length) → l.length ≤ l.flatten.length
  | [], _ => by simp
  | t :: l, h => by
    have := flat_ge l fun u hu => h u (List.mem_cons_of_mem _ hu)
    have := h t (by simp)
    rw [List.flatten_cons, List.length_append, List.length_cons]; omega
theorem toks_len {p : List UInt8} {l : List (List UInt8)} (h : AllTok p l) : ∀ t ∈ l, 1 ≤ t.length ∧ t.length ≤ 3 := fun t ht => by
  obtain ⟨c, -, rfl | rfl⟩ := toks_mem h ht
  · exact ⟨(tok_facts c).2.2.2.1, (tok_facts c).2.2.1⟩
  · exact ⟨by unfold byNum; simp, by unfold byNum; simp⟩
theorem told_le (x : List UInt8) : (toldL x).length ≤ 3 * x.length := by
  have := flat_le (toks3 x) fun t ht => (toks_len (toks3_all x) t ht).2
  rw [(toks3_all x).1] at this
  exact this
theorem told_ge (x : List UInt8) : x.length ≤ (toldL x).length := by
  have := flat_ge (toks3 x) fun t ht => (toks_len (toks3_all x) t ht).1
  rw [(toks3_all x).1] at this
  exact this
theorem setIf_no {p : List UInt8} {i : Nat} (l : List (List UInt8)) (h : spc (p[i]?.getD 0) = false) : setIf p i l = l := by
  unfold setIf
  rw [if_neg (by rw [h]; decide)]
theorem setIf_at {p : List UInt8} {k i : Nat} (l : List (List UInt8)) (h : k ≠ i) : (setIf p k l)[i]? = l[i]? := by
  unfold setIf
  split
  · rw [List.getElem?_set_ne h]
  · rfl
theorem toks2_at {p : List UInt8} {i : Nat} (h : 2 ≠ i) : (toks2 p)[i]? = (p.map tokB)[i]? := by
  unfold toks2
  split
  · rw [List.getElem?_set_ne h]
  · rfl
theorem told_hg {x : List UInt8} (h : 2 ≤ x.length) : (toldL (x ++ [46, 104, 103])).length ≤ 3 * x.length + 5 := by
  have hA := toks3_all (x ++ [46, 104, 103])
  have hlen : (x ++ [46, 104, 103] : List UInt8).length = x.length + 3 := by simp
  have hl : (x ++ [46, 104, 103] : List UInt8).length - 1 = x.length + 2 := by rw [hlen]; omega
  have g : ∀ j, (x ++ [46, 104, 103] : List UInt8)[x.length + j]? = ([46, 104, 103] : List UInt8)[j]? := fun j => by
    rw [List.getElem?_append_right (by omega), show x.length + j - x.length = j by omega]
  have hls : spc ((x ++ [46, 104, 103] : List UInt8)[(x ++ [46, 104, 103] : List UInt8).length - 1]?.getD 0) = false := by
    rw [hl, g 2]; decide
  have h3 : toks3 (x ++ [46, 104, 103]) = setIf (x ++ [46, 104, 103]) 0 (toks2 (x ++ [46, 104, 103])) := by
    unfold toks3
    rw [setIf_no _ hls]
  have e1 : (toks3 (x ++ [46, 104, 103]))[x.length + 1]? = some [104] := by
    rw [h3, setIf_at _ (by omega), toks2_at (by omega), List.getElem?_map, g 1]; decide
  have e2 : (toks3 (x ++ [46, 104, 103]))[x.length + 2]? = some [103] := by
    rw [h3, setIf_at _ (by omega), toks2_at (by omega), List.getElem?_map, g 2]; decide
  have hll : (toks3 (x ++ [46, 104, 103])).length = x.length + 3 := by rw [hA.1, hlen]
  have e0 : ∃ t, (toks3 (x ++ [46, 104, 103]))[x.length]? = some t ∧ t.length ≤ 3 := by
    have := List.getElem?_eq_getElem (l := toks3 (x ++ [46, 104, 103])) (i := x.length) (by omega)
    exact ⟨_, this, (toks_len hA _ (List.getElem_mem (by omega))).2⟩
  obtain ⟨t, ht, ht3⟩ := e0
  have hd : (toks3 (x ++ [46, 104, 103])).drop x.length = [t, [104], [103]] := by
    apply List.ext_getElem?
    intro j
    rw [List.getElem?_drop]
    rcases j with _ | _ | _ | j
    · rw [Nat.add_zero, ht]; rfl
    · rw [e1]; rfl
    · rw [e2]; rfl
    · rw [List.getElem?_eq_none (by omega)]; rfl
  have hs : toks3 (x ++ [46, 104, 103]) = (toks3 (x ++ [46, 104, 103])).take x.length ++ [t, [104], [103]] := by rw [← hd, List.take_append_drop]
  have hf := flat_le ((toks3 (x ++ [46, 104, 103])).take x.length) fun u hu => (toks_len hA u (List.mem_of_mem_take hu)).2
  unfold toldL
  rw [hs, List.flatten_append, List.length_append]
  rw [List.length_take] at hf
  have : ([t, [104], [103]] : List (List UInt8)).flatten.length = t.length + 2 := by simp
  omega
theorem doubt_len {x : List UInt8} (h : doubtL x = true) : 2 ≤ x.length := by
  unfold doubtL Lib.hasSuffix at h
  simp only [Bool.or_eq_true, List.isSuffixOf_iff_suffix] at h
  rcases h with (⟨t, rfl⟩ | ⟨t, rfl⟩) | ⟨t, rfl⟩ <;> simp
theorem told_hg1 (x : List UInt8) : (toldL (hg1 x)).length ≤ 3 * x.length + 5 ∧ x.length ≤ (toldL (hg1 x)).length := by
  unfold hg1
  split
  · rename_i h
    have := told_ge (x ++ [46, 104, 103])
    rw [List.length_append] at this
    exact ⟨told_hg (doubt_len h), by omega⟩
  · have := told_le x
    have := told_ge x
    exact ⟨by omega, by omega⟩
theorem join_len2 (x y : List UInt8) (r : List (List UInt8)) : (Lib.join (x :: y :: r) [47]).length = x.length + 1 + (Lib.join (y :: r) [47]).length := by
  rw [join_two, List.length_append, List.length_cons]; omega
theorem join_sizes : ∀ ps : List (List UInt8), ps ≠ [] → (Lib.join ((hgL ps).map toldL) [47]).length ≤ 3 * (Lib.join ps [47]).length + 6 * ps.length ∧ (Lib.join ps [47]).length ≤ (Lib.join ((hgL ps).map toldL) [47]).length
  | [], h => absurd rfl h
  | [x], _ => by
    rw [hgL, List.map_cons, List.map_nil, Lib.join_one, Lib.join_one]
    have := told_le x
    have := told_ge x
    simp only [List.length_cons, List.length_nil]
    omega
  | x :: y :: r, _ => by
    obtain ⟨i1, i2⟩ := join_sizes (y :: r) (by simp)
    have hx := told_hg1 x
    rw [join_len2]
    obtain ⟨z, zs, hz⟩ : ∃ z zs, (hgL (y :: r)).map toldL = z :: zs := by
      cases r with
      | nil => exact ⟨_, _, rfl⟩
      | cons u us => exact ⟨_, _, rfl⟩
    rw [hgL, List.map_cons]
    rw [hz] at i1 i2 ⊢
    rw [join_len2]
    simp only [List.length_cons] at i1 ⊢
    omega
theorem name_sizes (p : List UInt8) : (nameL p).length ≤ 3 * p.length + 10 + 6 * (partsL p).length ∧ p.length + 7 ≤ (nameL p).length := by
  obtain ⟨h1, h2⟩ := join_sizes (partsL p) (partsL_ne p)
  rw [join_parts] at h1 h2
  unfold nameL
  rw [List.length_append, List.length_append, show frontL.length = 5 from rfl, show ([46, 105] : List UInt8).length = 2 from rfl]
  omega
theorem parts_count : ∀ l : List UInt8, (partsL l).length = l.count 47 + 1
  | [] => rfl
  | c :: l => by
    have ih := parts_count l
    by_cases hc : c = 47
    · subst hc
      rw [partsL_slash, List.length_cons, ih, List.count_cons_self]
    · rw [partsL_other c l hc, List.length_cons, List.length_tail, ih, List.count_cons_of_ne hc]
      omega
/-! ### What stands ahead -/
def dirL (d : List UInt8) : List UInt8 := frontL ++ ((partsL d).map fun x => toldL (hg1 x) ++ [47]).flatten
theorem parts_two : ∀ (d p : List UInt8), partsL (d ++ 47 :: p) = partsL d ++ partsL p
  | [], p => partsL_slash p
  | c :: d, p => by
    have ih := parts_two d p
    rw [List.cons_append]
    by_cases hc : c = 47
    · subst hc
      rw [partsL_slash, partsL_slash, ih]; rfl
    · rw [partsL_other c _ hc, partsL_other c _ hc, ih]
      obtain ⟨y, ys, hy⟩ : ∃ y ys, partsL d = y :: ys := by
        cases h : partsL d with
        | nil => exact absurd h (partsL_ne d)
        | cons y ys => exact ⟨y, ys, rfl⟩
      rw [hy]; rfl
theorem join_flat : ∀ (a : List (List UInt8)) {b : List (List UInt8)}, b ≠ [] → Lib.join (a ++ b) [47] = (a.map fun x => x ++ [47]).flatten ++ Lib.join b [47]
  | [], b, h => rfl
  | x :: a, b, h => by
    have ih := join_flat a h
    obtain ⟨y, ys, hy⟩ : ∃ y ys, a ++ b = y :: ys := by
      cases hab : a ++ b with
      | nil => exact absurd (List.append_eq_nil_iff.1 hab).2 h
      | cons y ys => exact ⟨y, ys, rfl⟩
    rw [List.cons_append, hy, join_two, ← hy, ih]
    simp
theorem name_dir (d p : List UInt8) : ∃ r, nameL (d ++ 47 :: p) = dirL d ++ r := by
  have hne : (hgL (partsL p)).map toldL ≠ [] := fun e => by
    have := congrArg List.length e
    rw [List.length_map, hgL_length] at this
    exact partsL_ne p (List.eq_nil_of_length_eq_zero (by simpa using this))
  refine ⟨Lib.join ((hgL (partsL p)).map toldL) [47] ++ [46, 105], ?_⟩
  unfold nameL dirL
  rw [parts_two, hgL_append _ (partsL_ne p), List.map_append, join_flat _ hne, List.map_map, List.map_map]
  simp only [List.append_assoc]
  rfl
theorem dir_count (d : List UInt8) : (dirL d).count 47 = d.count 47 + 2 := by
  have key : ∀ ps : List (List UInt8), (∀ x ∈ ps, ∀ b ∈ x, b ≠ 47) → (ps.map fun x => toldL (hg1 x) ++ [47]).flatten.count 47 = ps.length := by
    intro ps
    induction ps with
    | nil => intro _; rfl
    | cons x ps ih =>
      intro h
      have h0 : (toldL (hg1 x)).count 47 = 0 := List.count_eq_zero.2 (told_noslash (hg1_noslash (h x (by simp))))
      rw [List.map_cons, List.flatten_cons, List.count_append, List.count_append, h0, ih fun u hu => h u (List.mem_cons_of_mem _ hu), List.length_cons]
      have : ([47] : List UInt8).count 47 = 1 := by decide
      omega
  unfold dirL
  rw [List.count_append, key _ (parts_noslash d), parts_count, show frontL.count 47 = 1 by decide]
  omega
end Go.Proofs.YtmjpejnpcmodgaaDoor
