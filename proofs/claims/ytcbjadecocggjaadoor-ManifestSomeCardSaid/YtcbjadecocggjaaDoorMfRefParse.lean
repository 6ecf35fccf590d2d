/- The document's Parse of files: the walk. -/
import Derived.Test.YtcbjadecocggjaaDoorMfRefMath
namespace Go.Proofs.YtcbjadecocggjaaDoor
open Go.RowKit Plain
set_option linter.unusedVariables false
set_option linter.unusedSimpArgs false
theorem slice_txt (l : List UInt8) (lo hi : Nat) (h1 : lo ≤ hi) (h2 : hi ≤ l.length) (y x : Int) (hy : y = (lo : Int)) (hx : x = (hi : Int)) (w : World) : (Instr.slice 9 (.string (txt l)) (some (.int .i64 y)) (some (.int .i64 x)) none).run Tryd.prog w = .ok (.string (txt ((l.drop lo).take (hi - lo)))) w := by
  subst hx hy
  have ht := Tryd.underlying9
  have h3 : hi ≤ (txt l).size := by rw [txt_size]; exact h2
  have e : (txt l).extract lo hi = txt ((l.drop lo).take (hi - lo)) := by
    apply ByteArray.ext
    apply Array.toList_inj.1
    rw [txt_list]
    simp [txt, List.extract_eq_take_drop]
  simp [Instr.slice, run_underlying ht, Instr.sliceBounds, run_sliceBound, h1, h3, e]
theorem at8_get (l : List UInt8) (i : Nat) (c : UInt8) (h : i < l.length) : l[i]? = some c ↔ at8 (txt l) i = c.toNat := by
  rw [at8_txt, List.getElem?_eq_getElem h, Option.getD_some, Option.some_inj]
  exact ⟨fun e => by rw [e], fun e => UInt8.toNat_inj.1 e⟩
/-- What the document's Parse answers. -/
def RfParse (base : Nat) (e : Ending) (w' : World) : Option (List MF) → Prop
  | none => e = .returned (.tuple #[.slice none 0 0, .bool false])
  | some xs => ∃ a c, e = .returned (.tuple #[.slice a xs.length c, .bool true]) ∧ OwnF 45 w' base (.slice a xs.length c) xs
theorem RfParse.good {base m : Nat} {w' : World} {xs : List MF} {a : Option Addr} {c : Nat} (hm : xs.length = m) (ho : OwnF 45 w' base (.slice a m c) xs) : RfParse base (.returned (.tuple #[.slice a m c, .bool true])) w' (some xs) := by
  subst hm
  exact ⟨a, c, rfl, ho⟩
end Go.Proofs.YtcbjadecocggjaaDoor
