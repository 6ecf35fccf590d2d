/- How great a commit with few texts is. -/
import Derived.Test.YtkpiinjhcckhfaaGreatDoorTrBoth
import Derived.Test.YtkpiinjhcckhfaaGreatDoorCoTo
import Derived.Test.YtkpiinjhcckhfaaGreatDoorChTo
namespace Go.Proofs.YtkpiinjhcckhfaaGreatDoor
open Go.RowKit Plain
set_option linter.unusedVariables false
theorem nlB_len : ∀ l : List UInt8, (nlB l).length ≤ 2 * l.length
  | [] => Nat.le_refl _
  | c :: r => by
    have := nlB_len r
    unfold nlB
    split
    · simp only [List.length_cons]; omega
    · simp only [List.length_cons]; omega
theorem few_sizes {w : World} {c : CC} {pa xa : Option Addr} (h : InCo w c pa xa) : (fewCC c).m.size ≤ 500 ∧ (fewCC c).ps.length ≤ 20 ∧ (fewCC c).xs.length ≤ 20 ∧ (∀ x ∈ (fewCC c).xs, x.1.size ≤ 200 ∧ x.2.size ≤ 200) := by
  refine ⟨cutB_size _ _, ?_, ?_, fun x hx => ?_⟩
  · show (c.ps.take 20).length ≤ 20; rw [List.length_take]; omega
  · show (List.map fewXX (c.xs.take 20)).length ≤ 20; rw [List.length_map, List.length_take]; omega
  · obtain ⟨y, -, rfl⟩ := List.mem_map.1 (show x ∈ List.map fewXX (c.xs.take 20) from hx)
    exact ⟨cutB_size _ _, cutB_size _ _⟩
theorem few_small {w : World} {c : CC} {pa xa : Option Addr} (h : InCo w c pa xa) : CoSmall (fewCC c) := by
  obtain ⟨h1, h2, h3, h4⟩ := few_sizes h
  exact ⟨few_who h.aw, few_who h.cw, by omega, by omega, fun x hx => by have := h4 x hx; exact ⟨by omega, by omega⟩, by omega⟩
theorem few_whoT {x : WX} (h : InWho x) : (whoT (fewW x)).length ≤ 626 := by
  have h1 := cutB_size 200 x.n
  have h2 := cutB_size 200 x.m
  have h3 := cutB_size 200 x.z
  have h4 := itoa_len x.t h.t64
  unfold whoT
  simp only [List.length_append, List.length_cons, List.length_nil]
  rw [← Lib.size_eq, ← Lib.size_eq, ← Lib.size_eq]
  show (cutB 200 x.n).size + _ + (cutB 200 x.m).size + _ + (Lib.itoa x.t).length + _ + (cutB 200 x.z).size ≤ _
  omega
theorem few_print {w : World} {c : CC} {pa xa : Option Addr} (h : InCo w c pa xa) : (printC (fewCC c)).length ≤ 15000 := by
  obtain ⟨h1, h2, h3, h4⟩ := few_sizes h
  have h20 : (fewCC c).tr.length = 20 := h.at_.n20
  have hi : ∀ p ∈ (fewCC c).ps, p.length = 20 := fun p hp => (h.at_.ids p (List.mem_of_mem_take hp)).1
  have ha : (whoT (fewCC c).a).length ≤ 626 := few_whoT h.aw
  have hc : (whoT (fewCC c).c).length ≤ 626 := few_whoT h.cw
  generalize fewCC c = F at *
  have e1 := treeT_len h20
  have e2 : (F.ps.flatMap parT).length ≤ 20 * 48 := Nat.le_trans (flat_le' parT 48 F.ps fun p hp => Nat.le_of_eq (parT_len (hi p hp))) (Nat.mul_le_mul_right _ h2)
  have e3 : (exsT F.xs).length ≤ 20 * 602 := Nat.le_trans (flat_le' (fun x => extT x ++ [10]) 602 F.xs fun x hx => by
    obtain ⟨k1, k2⟩ := h4 x hx
    have k3 := nlB_len x.2.data.toList
    rw [Lib.size_eq] at k1 k2
    unfold extT
    rw [rep_nlB]
    simp only [List.length_append, List.length_cons, List.length_nil]
    omega) (Nat.mul_le_mul_right _ h3)
  rw [Lib.size_eq] at h1
  unfold printC frontT autT comT
  simp only [List.length_append, List.length_cons, List.length_nil, e1]
  omega
theorem few_sizesX {w : World} {c : CX} {xa fa : Option Addr} (h : InCh w c xa fa) : (fewC c).u.size ≤ 200 ∧ (fewC c).d.size ≤ 500 ∧ (fewC c).xs.length ≤ 20 ∧ (fewC c).fs.length ≤ 20 ∧ (∀ x ∈ (fewC c).xs, x.1.size ≤ 150 ∧ x.2.size ≤ 200) ∧ (∀ p ∈ (fewC c).fs, p.size ≤ 300) := by
  refine ⟨cutB_size _ _, cutB_size _ _, ?_, ?_, fun x hx => ?_, fun p hp => ?_⟩
  · show (List.map fewX (c.xs.take 20)).length ≤ 20; rw [List.length_map, List.length_take]; omega
  · show (List.map (cutB 300) (c.fs.take 20)).length ≤ 20; rw [List.length_map, List.length_take]; omega
  · obtain ⟨y, -, rfl⟩ := List.mem_map.1 (show x ∈ List.map fewX (c.xs.take 20) from hx)
    exact ⟨cutB_size _ _, cutB_size _ _⟩
  · obtain ⟨y, -, rfl⟩ := List.mem_map.1 (show p ∈ List.map (cutB 300) (c.fs.take 20) from hp)
    exact cutB_size _ _
theorem few_tiny {w : World} {c : CX} {xa fa : Option Addr} (h : InCh w c xa fa) : ChTiny (fewC c) := by
  obtain ⟨h1, h2, h3, h4, h5, h6⟩ := few_sizesX h
  exact ⟨by omega, by omega, by omega, by omega, fun x hx => by have := h5 x hx; omega, fun p hp => by have := h6 p hp; omega, h.t64, h.z64⟩
theorem tc_few {w : World} {c : CC} {pa xa : Option Addr} (h : InCo w c pa xa) : TC (fewCC c) := by
  obtain ⟨h1, h2, h3, h4⟩ := few_sizes h
  have hs := few_small h
  refine ⟨⟨hs.1, hs.2.1, Nat.zero_le _, hs.2.2.2.1, hs.2.2.2.2.1, hs.2.2.2.2.2⟩, fun e he => ?_, by omega⟩
  have := (h4 e he).2
  rw [Lib.size_eq] at this
  omega
theorem tx_few {w : World} {c : CX} {xa fa : Option Addr} (h : InCh w c xa fa) : TX (fewC c) := by
  obtain ⟨h1, h2, h3, h4, h5, h6⟩ := few_sizesX h
  have hs := few_tiny h
  refine ⟨⟨hs.1, hs.2.1, hs.2.2.1, Nat.zero_le _, hs.2.2.2.2.1, (fun p hp => by cases hp), hs.2.2.2.2.2.2.1, hs.2.2.2.2.2.2.2⟩, fun e he => ?_, by omega⟩
  have := (h5 e he).2
  rw [Lib.size_eq] at this
  omega
set_option maxHeartbeats 8000000 in
theorem chY_few {w : World} {c : CC} {pa xa : Option Addr} (h : InCo w c pa xa) {Y : CX} (hy : chY (fewCC c) = some Y) : TX Y := by
  obtain ⟨h1, h2, h3, h4⟩ := few_sizes h
  have hp := few_print h
  have ha := few_whoT h.aw
  have hwa : WhoSmall (fewCC c).a := few_who h.aw
  have hn1 : (fewCC c).a.n.size ≤ 200 := cutB_size _ _
  have hn2 : (fewCC c).a.m.size ≤ 200 := cutB_size _ _
  have h20 : (fewCC c).tr.length = 20 := h.at_.n20
  generalize fewCC c = F at *
  rw [chY_step] at hy
  unfold stepC at hy
  split at hy
  · have hy := Option.some.inj hy
    cases hi : inC coY F with
    | none =>
      rw [hi] at hy
      rw [← hy]
      have hb : (printC { aloneC F with m := ⟨#[]⟩ }).length ≤ 15000 := by
        have e1 := treeT_len h20
        have e2 : (treeT { aloneC F with m := ⟨#[]⟩ }).length = 46 := treeT_len zeros_20
        unfold printC frontT at hp ⊢
        simp only [List.length_append, List.length_cons, List.length_nil] at hp ⊢
        rw [e1] at hp
        rw [e2]
        show 46 + 0 + (autT F).length + (comT F).length + (exsT F.xs).length + (0 + 1) + 0 ≤ 15000
        omega
      have hv : (txt (printC { aloneC F with m := ⟨#[]⟩ })).size ≤ 15000 := by rw [txt_size]; exact hb
      refine ⟨⟨?_, ?_, ?_, Nat.zero_le _, fun e he => ?_, (fun p hp => by cases hp), ?_, ?_⟩, fun e he => ?_, ?_⟩
      · show (txt (F.a.n.data.toList ++ [32, 60] ++ F.a.m.data.toList ++ [62])).size ≤ _
        rw [txt_size]
        rw [Lib.size_eq] at hn1 hn2
        simp only [List.length_append, List.length_cons, List.length_nil]
        omega
      · show F.m.size ≤ _; omega
      · show (1 : Nat) ≤ 18001; decide
      · have he : e ∈ [((⟨#[103, 105, 116]⟩ : ByteArray), txt (printC { aloneC F with m := ⟨#[]⟩ }))] := he
        rw [List.mem_singleton] at he
        subst he
        exact ⟨by show (3 : Nat) ≤ 18001; decide, Nat.le_trans hv (by decide)⟩
      · exact hwa.2.2.2
      · show (-9223372036854775808 : Int) ≤ 0 ∧ (0 : Int) ≤ _; omega
      · have he : e ∈ [((⟨#[103, 105, 116]⟩ : ByteArray), txt (printC { aloneC F with m := ⟨#[]⟩ }))] := he
        rw [List.mem_singleton] at he
        subst he
        rw [txt_list]
        exact hb
      · show F.m.size ≤ _; omega
    | some x =>
      rw [hi] at hy
      obtain rfl : x = Y := hy
      unfold inC at hi
      split at hi <;> try (cases hi; done)
      rename_i e he
      split at hi <;> try (cases hi; done)
      split at hi <;> try (cases hi; done)
      rename_i d hd
      split at hi <;> try (cases hi; done)
      rw [← Option.some.inj hi]
      have h5 := (h4 e (by rw [he]; simp)).2
      rw [Lib.size_eq] at h5
      exact spk_size hd (by omega) F.m (by omega)
  · cases hy
set_option maxHeartbeats 8000000 in
theorem coY_few {w : World} {c : CX} {xa fa : Option Addr} (h : InCh w c xa fa) {Y : CC} (hy : coY (fewC c) = some Y) : TC Y := by
  obtain ⟨h1, h2, h3, h4, h5, h6⟩ := few_sizesX h
  have ht : -9223372036854775808 ≤ (fewC c).t ∧ (fewC c).t ≤ 9223372036854775807 := h.t64
  have hz : -9223372036854775808 ≤ (fewC c).z ∧ (fewC c).z ≤ 9223372036854775807 := h.z64
  generalize fewC c = F at *
  rw [coY_step] at hy
  unfold stepX at hy
  split at hy
  · have hy := Option.some.inj hy
    cases hi : inX chY F with
    | none =>
      rw [hi] at hy
      rw [← hy]
      have hb : (wordsL F).length ≤ 15000 := by
        have a1 := itoa_len F.t ht
        have a2 := itoa_len F.z hz
        have e3 : (exsT F.xs).length ≤ 20 * 602 := Nat.le_trans (flat_le' (fun x => extT x ++ [10]) 602 F.xs fun x hx => by
          obtain ⟨k1, k2⟩ := h5 x hx
          have k3 := nlB_len x.2.data.toList
          rw [Lib.size_eq] at k1 k2
          unfold extT
          rw [rep_nlB]
          simp only [List.length_append, List.length_cons, List.length_nil]
          omega) (Nat.mul_le_mul_right _ h3)
        rw [Lib.size_eq] at h1
        unfold wordsL
        simp only [List.length_append, List.length_cons]
        omega
      have hv : (txt (wordsL F)).size ≤ 15000 := by rw [txt_size]; exact hb
      have hw : WhoSmall (hgW F.t) := ⟨by show (2 : Nat) ≤ 40000; decide, by show (2 : Nat) ≤ 40000; decide, by show (5 : Nat) ≤ 40000; decide, ht⟩
      refine ⟨⟨hw, hw, Nat.zero_le _, ?_, fun e he => ?_, ?_⟩, fun e he => ?_, ?_⟩
      · show (1 : Nat) ≤ 40000; decide
      · have he : e ∈ [((⟨#[104, 103]⟩ : ByteArray), txt (wordsL F))] := he
        rw [List.mem_singleton] at he
        subst he
        exact ⟨by show (2 : Nat) ≤ 40000; decide, Nat.le_trans hv (by decide)⟩
      · show F.d.size ≤ _; omega
      · have he : e ∈ [((⟨#[104, 103]⟩ : ByteArray), txt (wordsL F))] := he
        rw [List.mem_singleton] at he
        subst he
        rw [txt_list]
        exact hb
      · show F.d.size ≤ _; omega
    | some x =>
      rw [hi] at hy
      obtain rfl : x = Y := hy
      unfold inX at hi
      split at hi <;> try (cases hi; done)
      rename_i e he
      split at hi <;> try (cases hi; done)
      split at hi <;> try (cases hi; done)
      rename_i d hd
      split at hi <;> try (cases hi; done)
      split at hi <;> try (cases hi; done)
      rw [← Option.some.inj hi]
      have h5 := (h5 e (by rw [he]; simp)).2
      rw [Lib.size_eq] at h5
      exact par_size hd (by omega) F.d (by omega)
  · cases hy
end Go.Proofs.YtkpiinjhcckhfaaGreatDoor
