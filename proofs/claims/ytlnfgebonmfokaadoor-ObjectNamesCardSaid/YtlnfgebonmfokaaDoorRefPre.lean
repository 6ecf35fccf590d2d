/- What the document's sums want of texts and rows. -/
import Derived.Test.YtlnfgebonmfokaaDoorPath
import Derived.Test.YtlnfgebonmfokaaDoorWords
import Derived.ChangeKeysEq
import Derived.StillTailTactics
import Derived.StillTactics
import Derived.Deep.QuietTactic
import Derived.Deep.RegionHeld3
import Derived.Deep.AppendLies
import Derived.Deep.RegionWith
namespace Go.Proofs.YtlnfgebonmfokaaDoor
open Go.RowKit Plain
set_option linter.unusedVariables false
def hexN (ids : List Int) : List Int := ids.flatMap fun x => [(hexD (x.toNat / 16) : Int), (hexD (x.toNat % 16) : Int)]
theorem hexD_le (n : Nat) (h : n < 16) : (48 ≤ hexD n ∧ hexD n ≤ 57) ∨ (97 ≤ hexD n ∧ hexD n ≤ 102) := by unfold hexD; split <;> omega
theorem hexN_mem (ids : List Int) (hb : ∀ x ∈ ids, 0 ≤ x ∧ x ≤ 255) : ∀ y ∈ hexN ids, (48 ≤ y ∧ y ≤ 57) ∨ (97 ≤ y ∧ y ≤ 102) := by
  intro y hy
  obtain ⟨x, hx, hy⟩ := List.mem_flatMap.1 hy
  have h := hb x hx
  simp only [List.mem_cons, List.not_mem_nil, or_false] at hy
  rcases hy with rfl | rfl
  · have := hexD_le (x.toNat / 16) (by omega); omega
  · have := hexD_le (x.toNat % 16) (by omega); omega
theorem hexN_text (ids : List Int) (hb : ∀ x ∈ ids, 0 ≤ x ∧ x ≤ 255) : strOfNums (hexN ids) = ⟨(hexOf ids).toArray⟩ := by
  unfold strOfNums hexN hexOf
  rw [List.map_flatMap]
  rfl
theorem hexN_length (ids : List Int) : (hexN ids).length = 2 * ids.length := by
  induction ids with
  | nil => rfl
  | cons x t ih => simp [hexN] at ih ⊢; omega
def zeros20 : List Int := List.replicate 20 0
theorem info24 (xs : List Int) (h : xs.length = 20) : (Tryd.prog.info? 24).map (·.size) = some (V8 xs).size := by
  rw [V8_size, h]; kernel_rfl
theorem zero_24 (w : World) : (zeroValue 24).run Tryd.prog w = .ok (.agg (V8 zeros20)) w := by
  show _ = Result.ok (Value.agg (List.replicate 20 (Value.int .u8 0)).toArray) w
  kernel_rfl
end Go.Proofs.YtlnfgebonmfokaaDoor
