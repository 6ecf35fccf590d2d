/- The law CommitBack. -/
import Derived.Test.YtindmggmblmmcaaGreatDoorCoSame
namespace Go.Proofs.YtindmggmblmmcaaGreatDoor
open Go.RowKit Plain Go.ChangeShapes Go.WideShapes Go.ChangeAt Go.Great
set_option linter.unusedVariables false
set_option linter.unusedSimpArgs false
theorem text_of (xs : List Int) (h : ∀ x ∈ xs, 0 ≤ x ∧ x < 256) : ∃ L, numsOf (txt L) = xs := ⟨(strOfNums xs).data.toList, by rw [txt_of]; exact nums_str xs fun x hx => by have := h x hx; omega⟩
theorem parse_raw {L : List UInt8} {c : CC} (h : parseC L = some c) : c = rawC L := by
  unfold parseC at h
  split at h
  · cases h
  · split at h
    · exact (Option.some.inj h).symm
    · cases h
theorem nlB_len : ∀ l : List UInt8, (nlB l).length ≤ 2 * l.length
  | [] => Nat.le_refl _
  | c :: r => by
    have := nlB_len r
    unfold nlB
    split
    · simp only [List.length_cons]; omega
    · simp only [List.length_cons]; omega
theorem few_sizes {w : World} {c : CC} {pa xa : Option Addr} (h : InCo w c pa xa) : (fewCC c).m.size ≤ 500 ∧ (fewCC c).ps.length ≤ 20 ∧ (fewCC c).xs.length ≤ 20 ∧ (∀ x ∈ (fewCC c).xs, x.1.size ≤ 200 ∧ x.2.size ≤ 200) := by
  refine ⟨cutB_size _ _, ?_, ?_, fun x hx => ?_⟩
  · show (c.ps.take 20).length ≤ 20; rw [List.length_take]; omega
  · show (List.map fewXX (c.xs.take 20)).length ≤ 20; rw [List.length_map, List.length_take]; omega
  · obtain ⟨y, -, rfl⟩ := List.mem_map.1 (show x ∈ List.map fewXX (c.xs.take 20) from hx)
    exact ⟨cutB_size _ _, cutB_size _ _⟩
theorem few_small {w : World} {c : CC} {pa xa : Option Addr} (h : InCo w c pa xa) : CoSmall (fewCC c) := by
  obtain ⟨h1, h2, h3, h4⟩ := few_sizes h
  exact ⟨few_who h.aw, few_who h.cw, by omega, by omega, fun x hx => by have := h4 x hx; exact ⟨by omega, by omega⟩, by omega⟩
theorem few_whoT {x : WX} (h : InWho x) : (whoT (fewW x)).length ≤ 626 := by
  have h1 := cutB_size 200 x.n
  have h2 := cutB_size 200 x.m
  have h3 := cutB_size 200 x.z
  have h4 := itoa_len x.t h.t64
  unfold whoT
  simp only [List.length_append, List.length_cons, List.length_nil]
  rw [← Lib.size_eq, ← Lib.size_eq, ← Lib.size_eq]
  show (cutB 200 x.n).size + _ + (cutB 200 x.m).size + _ + (Lib.itoa x.t).length + _ + (cutB 200 x.z).size ≤ _
  omega
theorem few_print {w : World} {c : CC} {pa xa : Option Addr} (h : InCo w c pa xa) : (printC (fewCC c)).length ≤ 15000 := by
  obtain ⟨h1, h2, h3, h4⟩ := few_sizes h
  have h20 : (fewCC c).tr.length = 20 := h.at_.n20
  have hi : ∀ p ∈ (fewCC c).ps, p.length = 20 := fun p hp => (h.at_.ids p (List.mem_of_mem_take hp)).1
  have ha : (whoT (fewCC c).a).length ≤ 626 := few_whoT h.aw
  have hc : (whoT (fewCC c).c).length ≤ 626 := few_whoT h.cw
  generalize fewCC c = F at *
  have e1 := treeT_len h20
  have e2 : (F.ps.flatMap parT).length ≤ 20 * 48 := Nat.le_trans (flat_le' parT 48 F.ps fun p hp => Nat.le_of_eq (parT_len (hi p hp))) (Nat.mul_le_mul_right _ h2)
  have e3 : (exsT F.xs).length ≤ 20 * 602 := Nat.le_trans (flat_le' (fun x => extT x ++ [10]) 602 F.xs fun x hx => by
    obtain ⟨k1, k2⟩ := h4 x hx
    have k3 := nlB_len x.2.data.toList
    rw [Lib.size_eq] at k1 k2
    unfold extT
    rw [rep_nlB]
    simp only [List.length_append, List.length_cons, List.length_nil]
    omega) (Nat.mul_le_mul_right _ h3)
  rw [Lib.size_eq] at h1
  unfold printC frontT autT comT
  simp only [List.length_append, List.length_cons, List.length_nil, e1]
  omega
end Go.Proofs.YtindmggmblmmcaaGreatDoor
