/- strings.ContainsAny of any text at ASCII bytes: the walk. -/
import Derived.Test.YtindmggmblmmcaaGreatDoorRune
import Derived.Lib.SplitLaws
namespace Go.Proofs.YtindmggmblmmcaaGreatDoor
open Go.RowKit Plain
set_option linter.unusedVariables false
/-- What the start's variables hold. -/
structure Env (w : World) : Prop where
  most : ∃ m, w.cell? ⟨0, 0, none⟩ = some (.int .i64 m)
theorem Env.below {w w' : World} (h : Env w) (hb : Below w.heap.size w w') : Env w' := by
  obtain ⟨m, hm⟩ := h.most
  exact ⟨m, (hb.cell (p := ⟨0, 0, none⟩) (World.block_lt_of_cell? w ⟨0, 0, none⟩ hm)).trans hm⟩
theorem ascii_at {s : ByteArray} (h : Ascii s) : ∀ (j : Nat) b, s.data.toList[j]? = some b → b.toNat < 128 := fun j b hb => h b (List.mem_of_getElem? hb)
theorem indexAny_any (s chars : ByteArray) (w : World) (hs : s.size ≤ 100000) (h2 : 2 ≤ chars.size) (hc9 : chars.size ≤ 1000) (ha : Ascii chars) :
    Calls Tryz.prog 85 #[.string s, .string chars] w fun e w' => e = .returned (.int .i64 (Lib.indexAny s.data.toList chars.data.toList)) ∧ Below w.heap.size w w' := by
  by_cases h8 : s.size ≤ 8
  · exact indexAny_short s chars w h2 hc9 h8 ha
  · refine (Tryz.strings_IndexAny_long (fun W => by kernel_rfl) s chars w h2 (by omega) (by omega) (by omega) (ascii_at ha)).mono ?_
    rintro e w' ⟨rfl, rfl⟩
    exact ⟨rfl, ((Below.refl _ _).alloc (Nat.le_refl _) _).alloc (by simp) _⟩
set_option maxRecDepth 100000 in
set_option maxHeartbeats 1000000 in
theorem containsAny_any (s chars : ByteArray) (w : World) (hs : s.size ≤ 100000) (h2 : 2 ≤ chars.size) (hc9 : chars.size ≤ 1000) (ha : Ascii chars) :
    Calls Tryz.prog 75 #[.string s, .string chars] w fun e w' => e = .returned (.bool (Lib.containsAny s.data.toList chars.data.toList)) ∧ Below w.heap.size w w' := by
  have HC := Lib.hid (indexAny_any s chars w hs h2 hc9 ha)
  obtain ⟨v, hv⟩ : ∃ v, Lib.indexAny s.data.toList chars.data.toList = v := ⟨_, rfl⟩
  have HE : Hid (Lib.containsAny s.data.toList chars.data.toList = decide ((0 : Int) ≤ v)) := by show _ = _; unfold Lib.containsAny; rw [hv]
  rw [hv] at HC
  clear ha hs h2 hc9 hv
  go_enter Tryz.func75, Tryz.ntmps75
  go_wp2_with fail
  refine HC.out.mono ?_
  rintro e w' ⟨rfl, hb⟩
  go_wp2_with fail
  go_ret
  rw [HE.out]
  exact ⟨rfl, hb⟩
theorem str_eql (a b : ByteArray) (w : World) : (binOp .eql 9 (.string a) (.string b)).run Tryz.prog w = .ok (.bool (a.data.toList == b.data.toList)) w := by
  rw [binOp_string_eql, Lib.toList_data, Lib.toList_data]
  rfl
/-- Strings that lie in a row. -/
def StrsAt (w : World) (g : Nat) (ps : List ByteArray) : Prop := ∀ k p, ps[k]? = some p → w.cell? ⟨g, k, none⟩ = some (.string p)
theorem StrsAt.new (w : World) (ps : List ByteArray) (t : TypeId) : StrsAt (w.alloc (.cells (ps.map Value.string).toArray t)) w.heap.size ps := fun k p hp => by
  rw [cell_of_row _ _ _ _ _ _ (heap_alloc_new w _), List.getElem?_toArray, List.getElem?_map, hp]
  rfl
theorem next_int (k : Nat) (h : k ≤ 100000000000) : ∀ x : Int, x = (k : Int) + 1 → wrap64 x = ((k + 1 : Nat) : Int) := fun x hx => by
  subst hx
  rw [show ((k : Int) + 1) = ((k + 1 : Nat) : Int) by omega]
  exact IntWalk.wrap64_in _ (by omega)
theorem any_take_snoc {α : Type} {f : α → Bool} {l : List α} {k : Nat} {x : α} (h : l[k]? = some x) : (l.take (k + 1)).any f = ((l.take k).any f || f x) := by
  rw [List.take_add_one, h, List.any_append]
  simp
theorem any_of_take {α : Type} {f : α → Bool} {l : List α} {k : Nat} (h : (l.take k).any f = true) : l.any f = true := by
  rw [List.any_eq_true] at h ⊢
  obtain ⟨x, hx, hf⟩ := h
  exact ⟨x, List.mem_of_mem_take hx, hf⟩
end Go.Proofs.YtindmggmblmmcaaGreatDoor
