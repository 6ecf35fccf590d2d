/- Numbers as bytes and digits: the walk. -/
import Derived.Test.YtomnogbahjcnnaaDoorRefDec
import Derived.Test.YtomnogbahjcnnaaDoorRefOfs
import Derived.Test.YtomnogbahjcnnaaDoorRefHeads
import Derived.OrdersHeld
import Derived.Deep.RegionHeld3
namespace Go.Proofs.YtomnogbahjcnnaaDoor
open Go.RowKit Plain
set_option linter.unusedVariables false
theorem wpAnyH_weaken {P : Program} {md : Region.Mode} {ops : Array Oper} {Q : Exit → Act → World → Prop} {S1 S2 : World → Prop} (h : ∀ w, S2 w → S1 w) :
    ∀ (fuel : Nat) (listed : Array Bool) (a : Act) (w : World), wpAnyH P md ops Q S2 fuel listed a w → wpAnyH P md ops Q S1 fuel listed a w
  | 0, _, _, _, hw => hw
  | fuel + 1, _, _, _, hw => ⟨hw.1, fun i hi => wpOp_mono (fun a' w' h' => ⟨h _ h'.1, wpAnyH_weaken h fuel _ a' w' h'.2⟩) (hw.2 i hi)⟩
/-- Both calls hand back the same bytes. -/
def SameBytes (f g : Nat) (args : Array Value) : Prop := ∃ xs : List Int,
  (∀ w : World, Calls Tryd.prog f args w fun e w' => (∃ a k c, e = .returned (.slice a k c) ∧ Bytes w' a k xs) ∧ Below w.heap.size w w') ∧
  (∀ w : World, Calls Tryd.prog g args w fun e w' => (∃ a k c, e = .returned (.slice a k c) ∧ Bytes w' a k xs) ∧ Below w.heap.size w w')
theorem own_calls {f : Nat} {args : Array Value} {xs : List Int} (hx : ∀ x ∈ xs, 0 ≤ x ∧ x ≤ 255)
    (h : ∀ w : World, Calls Tryd.prog f args w fun e w' => (∃ a k c, e = .returned (.slice a k c) ∧ Own w' w.heap.size (.slice a k c) k xs) ∧ Below w.heap.size w w') :
    ∀ w : World, Calls Tryd.prog f args w fun e w' => (∃ a k c, e = .returned (.slice a k c) ∧ Bytes w' a k xs) ∧ Below w.heap.size w w' := fun w =>
  (h w).mono fun e w' h => ⟨h.1.elim fun a h => h.elim fun k h => h.elim fun c h => ⟨a, k, c, h.1, h.2.bytes (range_of_mem hx)⟩, h.2⟩
theorem nil_calls {f : Nat} {args : Array Value} (h : ∀ w : World, Calls Tryd.prog f args w fun e w' => e = .returned (.slice none 0 0) ∧ Below w.heap.size w w') :
    ∀ w : World, Calls Tryd.prog f args w fun e w' => (∃ a k c, e = .returned (.slice a k c) ∧ Bytes w' a k []) ∧ Below w.heap.size w w' := fun w =>
  (h w).mono fun e w' h => ⟨⟨none, 0, 0, h.1, rfl, by omega, by simp, .inl rfl⟩, h.2⟩
theorem same_be (N : Nat) (hN : N < 18446744073709551616) (s : Int) : SameBytes 9 10 #[.int .u64 (N : Int), .int .i64 s] := by
  obtain ⟨sz, hsz⟩ : ∃ sz : Nat, min (max s 0) 8 = (sz : Int) := ⟨(min (max s 0) 8).toNat, by omega⟩
  exact ⟨beTo N sz, own_calls (beTo_bytes N sz) fun w => (numsBe_any N hN s sz hsz w).mono fun e w' h => ⟨h.1.elim fun a h => h.elim fun c h => ⟨a, sz, c, h⟩, h.2⟩,
    own_calls (beTo_bytes N sz) fun w => (refBe_any N hN s sz hsz w).mono fun e w' h => ⟨h.1.elim fun a h => h.elim fun c h => ⟨a, sz, c, h⟩, h.2⟩⟩
theorem same_leb (n : Int) : SameBytes 11 12 #[.int .i64 n] := by
  by_cases h : n < 0 ∨ 4611686018427387903 < n
  · exact ⟨[], nil_calls (leb_out n h), nil_calls (refLeb_out n h)⟩
  · obtain ⟨m, rfl⟩ : ∃ m : Nat, n = m := ⟨n.toNat, by omega⟩
    exact ⟨lebBytes m, own_calls (lebF_bytes 10 m) (leb_any m (by omega)), own_calls (lebF_bytes 10 m) (refLeb_any m (by omega))⟩
theorem same_ofs (n : Int) : SameBytes 13 14 #[.int .i64 n] := by
  by_cases h : n < 0 ∨ 4611686018427387903 < n
  · exact ⟨[], nil_calls (ofs_out n h), nil_calls (refOfs_out n h)⟩
  · obtain ⟨m, rfl⟩ : ∃ m : Nat, n = m := ⟨n.toNat, by omega⟩
    exact ⟨ofsBytes m, own_calls (ofsBytes_bytes m) (ofs_any m (by omega)), own_calls (ofsBytes_bytes m) (refOfs_any m (by omega))⟩
theorem same_head (k n : Int) : SameBytes 15 16 #[.int .i64 k, .int .i64 n] := by
  by_cases h : badHead k n
  · exact ⟨[], nil_calls (head_out k n h), nil_calls (refHead_out k n h)⟩
  · unfold badHead at h
    obtain ⟨m, rfl⟩ : ∃ m : Nat, n = m := ⟨n.toNat, by omega⟩
    obtain ⟨j, rfl⟩ : ∃ j : Nat, k = j := ⟨k.toNat, by omega⟩
    exact ⟨headBytes j m, own_calls (headBytes_bytes j m (by omega)) (head_any j m (by omega) (by omega)), own_calls (headBytes_bytes j m (by omega)) (refHead_any j m (by omega) (by omega))⟩
end Go.Proofs.YtomnogbahjcnnaaDoor
