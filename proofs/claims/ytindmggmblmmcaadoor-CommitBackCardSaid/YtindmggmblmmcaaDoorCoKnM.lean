/- The chapter's example of a commit, plainly. -/
import Derived.Test.YtindmggmblmmcaaDoorCoParse
namespace Go.Proofs.YtindmggmblmmcaaDoor
open Go.RowKit Plain Go.ChangeShapes Go.WideShapes Go.ChangeAt Go.Great
set_option linter.unusedVariables false
def kw : WX := ⟨⟨#[65]⟩, ⟨#[97, 64, 98]⟩, 12, ⟨#[43, 48, 48, 48, 48]⟩⟩
def kp : List UInt8 := [65, 32, 60, 97, 64, 98, 62, 32, 49, 50, 32, 43, 48, 48, 48, 48]
def kc : CC := ⟨zeros20, [], kw, kw, [(⟨#[107]⟩, ⟨#[120, 10, 121]⟩)], ⟨#[109]⟩⟩
theorem known_person : personE kp = (kw, 0) := by kernel_rfl
theorem known_right : coR kc = true := by decide +kernel
theorem known_len : 40 < (printC kc).length ∧ (printC kc).length ≤ 1000 := by decide +kernel
theorem known_parse : ∃ c, parseC (printC kc) = some c ∧ c.m = ⟨#[109]⟩ ∧ c.xs.length = 1 := by
  have h : (parseC (printC kc)).map (fun c => (c.m.data.toList, c.xs.length)) = some ([109], 1) := by decide +kernel
  obtain ⟨c, h1, h2⟩ := Option.map_eq_some_iff.1 h
  simp only [Prod.mk.injEq] at h2
  exact ⟨c, h1, bytes_ext h2.1, h2.2⟩
end Go.Proofs.YtindmggmblmmcaaDoor
