/- Two hunks that lie apart, at once and one by one. -/
import Derived.Test.YtbkifjmfmiipnaaKnown
import Derived.Deep.QuietTactic
import Derived.BigQuiet
namespace Go.Proofs.Ytbkifjmfmiipnaa
open Go.RowKit Plain
set_option linter.unusedVariables false
namespace Plain
theorem low_id (h : Hk) (h1 : h.fr < 4294967296) (h2 : h.to < 4294967296) : low h = h := by
  unfold low
  rw [Nat.mod_eq_of_lt h1, Nat.mod_eq_of_lt h2]
theorem apply_two (base one two : List Int) (p0 p1 p2 p3 : Nat) (most : Int) (h0 : p0 ≤ p1) (h1 : p1 ≤ p2) (h2 : p2 ≤ p3) (h3 : p3 ≤ base.length) (hb : base.length ≤ 1000000) (l1 : one.length ≤ 1000000) (l2 : two.length ≤ 1000000) (hm : 4000000 ≤ most) :
    applyOf base (printOf [⟨p0, p1, one⟩, ⟨p2, p3, two⟩]) most = (0, base.take p0 ++ one ++ sub base p1 (p2 - p1) ++ two ++ base.drop p3) := by
  have e : applyGo base (hunksOf (printOf [⟨p0, p1, one⟩, ⟨p2, p3, two⟩])) 0 [] = (0, base.take p0 ++ one ++ sub base p1 (p2 - p1) ++ two ++ base.drop p3) := by
    rw [hunksOf_print _ (by intro h hh; simp only [List.mem_cons, List.not_mem_nil, or_false] at hh; rcases hh with rfl | rfl <;> (simp; omega))]
    simp only [List.map_cons, List.map_nil]
    rw [low_id _ (by simp; omega) (by simp; omega), low_id _ (by simp; omega) (by simp; omega)]
    rw [applyGo, if_neg (by simp; omega), applyGo, if_neg (by simp; omega), applyGo]
    simp [sub, List.append_assoc]
  unfold applyOf
  rw [e]
  simp only [if_true]
  rw [if_neg]
  simp only [List.length_append, List.length_take, List.length_drop, sub]
  omega
theorem apply_one (base one : List Int) (p0 p1 : Nat) (most : Int) (h0 : p0 ≤ p1) (h3 : p1 ≤ base.length) (hb : base.length ≤ 1000000) (l1 : one.length ≤ 1000000) (hm : 4000000 ≤ most) :
    applyOf base (printOf [⟨p0, p1, one⟩]) most = (0, base.take p0 ++ one ++ base.drop p1) := by
  have e : applyGo base (hunksOf (printOf [⟨p0, p1, one⟩])) 0 [] = (0, base.take p0 ++ one ++ base.drop p1) := by
    rw [hunksOf_print _ (by intro h hh; simp only [List.mem_cons, List.not_mem_nil, or_false] at hh; rcases hh with rfl; (simp; omega))]
    simp only [List.map_cons, List.map_nil]
    rw [low_id _ (by simp; omega) (by simp; omega)]
    rw [applyGo, if_neg (by simp; omega), applyGo]
    simp [sub]
  unfold applyOf
  rw [e]
  simp only [if_true]
  rw [if_neg]
  simp only [List.length_append, List.length_take, List.length_drop]
  omega
theorem two_is (base one two : List Int) (p0 p1 p2 p3 : Nat) (h0 : p0 ≤ p1) (h1 : p1 ≤ p2) (h2 : p2 ≤ p3) (h3 : p3 ≤ base.length) :
    (base.take p2 ++ two ++ base.drop p3).take p0 ++ one ++ (base.take p2 ++ two ++ base.drop p3).drop p1 = base.take p0 ++ one ++ sub base p1 (p2 - p1) ++ two ++ base.drop p3 := by
  have e1 : (base.take p2 ++ two ++ base.drop p3).take p0 = base.take p0 := by
    rw [List.append_assoc, List.take_append_of_le_length (by simp; omega), List.take_take, Nat.min_eq_left (by omega)]
  have e2 : (base.take p2 ++ two ++ base.drop p3).drop p1 = sub base p1 (p2 - p1) ++ (two ++ base.drop p3) := by
    rw [List.append_assoc, List.drop_append_of_le_length (by simp; omega)]
    congr 1
    unfold sub
    rw [List.drop_take]
  rw [e1, e2]
  simp [List.append_assoc]
end Plain
end Go.Proofs.Ytbkifjmfmiipnaa
