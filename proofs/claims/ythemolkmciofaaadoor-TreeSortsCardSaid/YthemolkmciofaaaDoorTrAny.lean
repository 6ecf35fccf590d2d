/- strings.ContainsAny of any text at ASCII bytes; what the start's variables hold. -/
import Derived.Test.YthemolkmciofaaaDoorRune
import Derived.Lib.SplitLaws
namespace Go.Proofs.YthemolkmciofaaaDoor
open Go.RowKit Plain
set_option linter.unusedVariables false
/-- What the start's variables hold. -/
structure Env (w : World) : Prop where
  most : ∃ m, w.cell? ⟨0, 0, none⟩ = some (.int .i64 m)
  tz : w.cell? ⟨3, 7, none⟩ = some (.int .u8 3)
theorem Env.below {w w' : World} (h : Env w) (hb : Below w.heap.size w w') : Env w' := by
  obtain ⟨m, hm⟩ := h.most
  exact ⟨⟨m, (hb.cell (p := ⟨0, 0, none⟩) (World.block_lt_of_cell? w ⟨0, 0, none⟩ hm)).trans hm⟩,
    (hb.cell (p := ⟨3, 7, none⟩) (World.block_lt_of_cell? w ⟨3, 7, none⟩ h.tz)).trans h.tz⟩
theorem ascii_at {s : ByteArray} (h : Ascii s) : ∀ (j : Nat) b, s.data.toList[j]? = some b → b.toNat < 128 := fun j b hb => h b (List.mem_of_getElem? hb)
theorem indexAny_any (s chars : ByteArray) (w : World) (hs : s.size ≤ 100000) (h2 : 2 ≤ chars.size) (hc9 : chars.size ≤ 1000) (ha : Ascii chars) :
    Calls Tryd.prog 34 #[.string s, .string chars] w fun e w' => e = .returned (.int .i64 (Lib.indexAny s.data.toList chars.data.toList)) ∧ Below w.heap.size w w' := by
  by_cases h8 : s.size ≤ 8
  · exact indexAny_short s chars w h2 hc9 h8 ha
  · refine (Tryd.strings_IndexAny_long (fun W => by kernel_rfl) s chars w h2 (by omega) (by omega) (by omega) (ascii_at ha)).mono ?_
    rintro e w' ⟨rfl, rfl⟩
    exact ⟨rfl, ((Below.refl _ _).alloc (Nat.le_refl _) _).alloc (by simp) _⟩
set_option maxRecDepth 100000 in
set_option maxHeartbeats 1000000 in
theorem containsAny_any (s chars : ByteArray) (w : World) (hs : s.size ≤ 100000) (h2 : 2 ≤ chars.size) (hc9 : chars.size ≤ 1000) (ha : Ascii chars) :
    Calls Tryd.prog 28 #[.string s, .string chars] w fun e w' => e = .returned (.bool (Lib.containsAny s.data.toList chars.data.toList)) ∧ Below w.heap.size w w' := by
  have HC := Lib.hid (indexAny_any s chars w hs h2 hc9 ha)
  obtain ⟨v, hv⟩ : ∃ v, Lib.indexAny s.data.toList chars.data.toList = v := ⟨_, rfl⟩
  have HE : Hid (Lib.containsAny s.data.toList chars.data.toList = decide ((0 : Int) ≤ v)) := by show _ = _; unfold Lib.containsAny; rw [hv]
  rw [hv] at HC
  clear ha hs h2 hc9 hv
  go_enter Tryd.func28, Tryd.ntmps28
  go_wp2_with fail
  refine HC.out.mono ?_
  rintro e w' ⟨rfl, hb⟩
  go_wp2_with fail
  go_ret
  rw [HE.out]
  exact ⟨rfl, hb⟩
theorem str_eql (a b : ByteArray) (w : World) : (binOp .eql 9 (.string a) (.string b)).run Tryd.prog w = .ok (.bool (a.data.toList == b.data.toList)) w := by
  rw [binOp_string_eql, Lib.toList_data, Lib.toList_data]
  rfl
theorem next_int (k : Nat) (h : k ≤ 100000000000) : ∀ x : Int, x = (k : Int) + 1 → wrap64 x = ((k + 1 : Nat) : Int) := fun x hx => by
  subst hx
  rw [show ((k : Int) + 1) = ((k + 1 : Nat) : Int) by omega]
  exact IntWalk.wrap64_in _ (by omega)
end Go.Proofs.YthemolkmciofaaaDoor
