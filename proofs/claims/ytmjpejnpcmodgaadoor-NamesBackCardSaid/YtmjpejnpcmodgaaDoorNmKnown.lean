/- known: the walk. -/
import Derived.Test.YtmjpejnpcmodgaaDoorNmPath
namespace Go.Proofs.YtmjpejnpcmodgaaDoor
open Go.RowKit Plain
set_option linter.unusedVariables false
set_option linter.unusedSimpArgs false
theorem c1_any (w : World) (hE : Env w) : Calls Tryd.prog 5 #[.string ⟨#[102, 111, 111, 47, 66, 97, 114, 95, 120, 46, 99]⟩] w fun e w' => e = .returned (.tuple #[.string ⟨#[100, 97, 116, 97, 47, 102, 111, 111, 47, 95, 98, 97, 114, 95, 95, 120, 46, 99, 46, 105]⟩, .int .i64 0]) ∧ Below w.heap.size w w' := by
  have h := name_any ⟨#[102, 111, 111, 47, 66, 97, 114, 95, 120, 46, 99]⟩ w hE (by decide)
  have e : nameE (⟨#[102, 111, 111, 47, 66, 97, 114, 95, 120, 46, 99]⟩ : ByteArray).data.toList = ([100, 97, 116, 97, 47, 102, 111, 111, 47, 95, 98, 97, 114, 95, 95, 120, 46, 99, 46, 105], 0) := by decide +kernel
  rw [e] at h
  exact h
theorem c2_any (w : World) (hE : Env w) : Calls Tryd.prog 5 #[.string ⟨#[97, 46, 105, 47, 46, 98]⟩] w fun e w' => e = .returned (.tuple #[.string ⟨#[100, 97, 116, 97, 47, 97, 46, 105, 46, 104, 103, 47, 126, 50, 101, 98, 46, 105]⟩, .int .i64 0]) ∧ Below w.heap.size w w' := by
  have h := name_any ⟨#[97, 46, 105, 47, 46, 98]⟩ w hE (by decide)
  have e : nameE (⟨#[97, 46, 105, 47, 46, 98]⟩ : ByteArray).data.toList = ([100, 97, 116, 97, 47, 97, 46, 105, 46, 104, 103, 47, 126, 50, 101, 98, 46, 105], 0) := by decide +kernel
  rw [e] at h
  exact h
theorem c3_any (w : World) (hE : Env w) : Calls Tryd.prog 7 #[.string ⟨#[100, 97, 116, 97, 47, 97, 117, 126, 55, 56, 46, 99, 46, 105]⟩] w fun e w' => e = .returned (.tuple #[.string ⟨#[97, 117, 120, 46, 99]⟩, .int .i64 0]) ∧ Below w.heap.size w w' := by
  have h := path_any ⟨#[100, 97, 116, 97, 47, 97, 117, 126, 55, 56, 46, 99, 46, 105]⟩ w hE (by decide)
  have e : pathE (⟨#[100, 97, 116, 97, 47, 97, 117, 126, 55, 56, 46, 99, 46, 105]⟩ : ByteArray).data.toList = ([97, 117, 120, 46, 99], 0) := by decide +kernel
  rw [e] at h
  exact h
set_option maxRecDepth 100000 in
set_option maxHeartbeats 4000000 in
theorem known_any (w : World) (hE : Env w) : Calls Tryd.prog 6 #[] w fun e w' => e = .returned (.bool true) ∧ Below w.heap.size w w' := by
  have HE := Lib.hid hE
  clear hE
  have HQ1 := Lib.hid (fun W => eq_self ⟨#[100, 97, 116, 97, 47, 102, 111, 111, 47, 95, 98, 97, 114, 95, 95, 120, 46, 99, 46, 105]⟩ W)
  have HQ2 := Lib.hid (fun W => eq_self ⟨#[100, 97, 116, 97, 47, 97, 46, 105, 46, 104, 103, 47, 126, 50, 101, 98, 46, 105]⟩ W)
  have HQ3 := Lib.hid (fun W => eq_self ⟨#[97, 117, 120, 46, 99]⟩ W)
  go_enter Tryd.func6, Tryd.ntmps6
  go_wp2_with fail
  refine (c1_any w HE.out).mono ?_
  rintro e w1 ⟨rfl, hb⟩
  have HB1 := Lib.hid hb
  clear hb
  go_wp2_with fail
  refine (c2_any w1 (HE.out.below HB1.out)).mono ?_
  rintro e w2 ⟨rfl, hb⟩
  have HB2 := Lib.hid (HB1.out.trans (hb.mono HB1.out.size))
  clear hb
  go_wp2_with fail
  refine (c3_any w2 (HE.out.below HB2.out)).mono ?_
  rintro e w3 ⟨rfl, hb⟩
  have HB3 := Lib.hid (HB2.out.trans (hb.mono HB2.out.size))
  clear hb
  go_wp2_with (first
    | refine wpList_eql (by rfl) .eql 9 _ _ _ rfl (.string ⟨#[100, 97, 116, 97, 47, 102, 111, 111, 47, 95, 98, 97, 114, 95, 95, 120, 46, 99, 46, 105]⟩) (.string ⟨#[100, 97, 116, 97, 47, 102, 111, 111, 47, 95, 98, 97, 114, 95, 95, 120, 46, 99, 46, 105]⟩) rfl rfl (.bool true) (guard_eq _ _ _ _) HQ1.out ?_
    | refine wpList_eql (by rfl) .eql 9 _ _ _ rfl (.string ⟨#[100, 97, 116, 97, 47, 97, 46, 105, 46, 104, 103, 47, 126, 50, 101, 98, 46, 105]⟩) (.string ⟨#[100, 97, 116, 97, 47, 97, 46, 105, 46, 104, 103, 47, 126, 50, 101, 98, 46, 105]⟩) rfl rfl (.bool true) (guard_eq _ _ _ _) HQ2.out ?_
    | refine wpList_eql (by rfl) .eql 9 _ _ _ rfl (.string ⟨#[97, 117, 120, 46, 99]⟩) (.string ⟨#[97, 117, 120, 46, 99]⟩) rfl rfl (.bool true) (guard_eq _ _ _ _) HQ3.out ?_)
  go_ret
  exact ⟨rfl, HB3.out⟩
end Go.Proofs.YtmjpejnpcmodgaaDoor
