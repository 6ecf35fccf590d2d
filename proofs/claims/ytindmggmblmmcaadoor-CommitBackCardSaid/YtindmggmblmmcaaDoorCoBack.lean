/- What a person's text tells is printed as it was. -/
import Derived.Test.YtindmggmblmmcaaDoorCoWhoOf
namespace Go.Proofs.YtindmggmblmmcaaDoor
open Go.RowKit Plain
set_option linter.unusedVariables false
theorem cutL_back {l sep a b : List UInt8} (h : Lib.cut l sep = (a, b, true)) : l = a ++ sep ++ b := by
  unfold Lib.cut at h
  split at h
  · rename_i h0
    simp only [Prod.mk.injEq, and_true] at h
    obtain ⟨rfl, rfl⟩ := h
    rcases Lib.index_spec l sep with ⟨h1, -⟩ | ⟨i, h1, -, h2, -⟩
    · omega
    · rw [h1, Int.toNat_natCast]
      unfold Lib.occAt at h2
      obtain ⟨r, hr⟩ := List.isPrefixOf_iff_prefix.1 h2
      have e : l.drop (i + sep.length) = r := by rw [← List.drop_drop, ← hr, List.drop_left]
      rw [e, List.append_assoc, hr, List.take_append_drop]
  · simp at h
theorem decF_back {D : List UInt8} (h : (decF D).2 = 0) : Lib.itoa ((decF D).1 : Nat) = D := by
  unfold decF at h ⊢
  split
  · rename_i v hv
    rw [hv] at h
    dsimp only at h
    split
    · rename_i hc
      show Lib.itoa ((v.toNat : Nat) : Int) = D
      rw [Int.toNat_of_nonneg hc.1]
      exact hc.2.2
    · rename_i hc
      rw [if_neg hc] at h
      cases h
  · rename_i hv
    split at h
    · rename_i v hv2
      exact absurd hv2 (hv v)
    · cases h
/-- The text is the one that was read. -/
theorem person_back {L : List UInt8} {x : WX} (h : personR L = some x) : whoT x = L := by
  unfold personR at h
  obtain ⟨N, R, b1, h1⟩ : ∃ N R b, Lib.cut L [32, 60] = (N, R, b) := ⟨_, _, _, rfl⟩
  obtain ⟨M, R2, b2, h2⟩ : ∃ N R' b, Lib.cut R [62, 32] = (N, R', b) := ⟨_, _, _, rfl⟩
  obtain ⟨D, Z, b3, h3⟩ : ∃ N R' b, Lib.cut R2 [32] = (N, R', b) := ⟨_, _, _, rfl⟩
  simp only [h1, h2, h3] at h
  split at h
  · rename_i e1
    subst e1
    split at h
    · rename_i e2
      subst e2
      split at h
      · rename_i e3
        obtain ⟨rfl, e4⟩ := e3
        simp only [Option.some.injEq] at h
        subst h
        have k1 := cutL_back h1
        have k2 := cutL_back h2
        have k3 := cutL_back h3
        have k4 := decF_back e4
        unfold whoT
        simp only [txt_list]
        rw [k4, k1, k2, k3]
        simp
      · cases h
    · cases h
  · cases h
end Go.Proofs.YtindmggmblmmcaaDoor
