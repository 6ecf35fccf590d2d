/- Where a text begins as one that is told of: the document's walk. -/
import Derived.Test.YtmkhnlfhbiabcaaDoorPrintSome
namespace Go.Proofs.YtmkhnlfhbiabcaaDoor
open Go.RowKit Plain
set_option linter.unusedVariables false
def beginsT (s : ByteArray) : Bool := Lib.hasPrefix s.data.toList [1, 10]
theorem begins_is (s : ByteArray) (h : 1 < s.size) : beginsT s = ((s[0]'(by omega)).toNat == 1 && (s[1]'h).toNat == 10) := by
  unfold beginsT Lib.hasPrefix
  obtain ⟨l, hl⟩ : ∃ l, s.data.toList = l := ⟨_, rfl⟩
  have hz := Lib.size_eq s
  have e0 : s.data.toList[0]? = some (s[0]'(by omega)) := by
    rw [List.getElem?_eq_getElem (by omega)]; rfl
  have e1 : s.data.toList[1]? = some (s[1]'h) := by
    rw [List.getElem?_eq_getElem (by omega)]; rfl
  rw [hl] at e0 e1 hz ⊢
  match l, e0, e1 with
  | x :: y :: t, e0, e1 =>
    simp only [List.getElem?_cons_zero, List.getElem?_cons_succ, Option.some.injEq] at e0 e1
    rw [← e0, ← e1]
    have hu : ∀ (z : UInt8) (k : Nat) (v : UInt8), v.toNat = k → (v == z) = (z.toNat == k) := fun z k v hv => by
      rw [Bool.eq_iff_iff, beq_iff_eq, beq_iff_eq, ← hv]
      exact ⟨fun h => by rw [h], fun h => (UInt8.toNat_inj.1 h).symm⟩
    simp [List.isPrefixOf, hu x 1 1 rfl, hu y 10 10 rfl]
theorem begins_short (s : ByteArray) (h : ¬ 1 < s.size) : beginsT s = false := by
  unfold beginsT Lib.hasPrefix
  rw [Bool.eq_false_iff]
  intro hp
  have := List.IsPrefix.length_le (List.isPrefixOf_iff_prefix.1 hp)
  rw [← Lib.size_eq] at this
  simp at this
  omega
theorem pre_begins (s : ByteArray) : pre (numsOf s) markB = beginsT s := by
  unfold pre beginsT
  rw [bytesOf_nums]
  rfl
set_option maxRecDepth 100000 in
set_option maxHeartbeats 4000000 in
theorem begins_any (s : ByteArray) (w : World) : Calls Tryd.prog 20 #[.string s] w fun e w' => e = .returned (.bool (beginsT s)) ∧ Below w.heap.size w w' := by
  by_cases h : 1 < s.size
  · have hi : (1 : Int) < (s.size : Int) := by omega
    have HB := Lib.hid (begins_is s h)
    have hix0 := fun W => index_text s 0 (by omega) 0 rfl W
    have hix1 := fun W => index_text s 1 h 1 rfl W
    rw [at8_is s 0 (by omega)] at hix0
    rw [at8_is s 1 h] at hix1
    generalize (s[0]'(Nat.lt_trans Nat.zero_lt_one h)).toNat = c0 at *
    generalize (s[1]'h).toNat = c1 at *
    clear h
    by_cases k0 : c0 = 1
    · subst k0
      by_cases k1 : c1 = 10
      · subst k1
        go_enter Tryd.func20, Tryd.ntmps20
        go_wp2_with fail
        go_ret
        rw [HB.out]
        exact ⟨rfl, Below.refl _ _⟩
      · have k2 : ¬ (c1 : Int) = 10 := by omega
        have k3 : ((c1 : Int) == 10) = false := by simpa using k2
        have K1 := Lib.hid k1
        clear k1
        go_enter Tryd.func20, Tryd.ntmps20
        go_wp2_with fail
        go_ret
        rw [HB.out]
        have k1 := K1.out
        refine ⟨?_, Below.refl _ _⟩
        have : (c1 == 10) = false := by simpa using k1
        rw [this]; rfl
    · have k2 : ¬ (c0 : Int) = 1 := by omega
      have k3 : ((c0 : Int) == 1) = false := by simpa using k2
      have K1 := Lib.hid k0
      clear k0
      go_enter Tryd.func20, Tryd.ntmps20
      go_wp2_with fail
      go_ret
      rw [HB.out]
      have k1 := K1.out
      refine ⟨?_, Below.refl _ _⟩
      have : (c0 == 1) = false := by simpa using k1
      rw [this]; rfl
  · have hi : ¬ (1 : Int) < (s.size : Int) := by omega
    have HB := Lib.hid (begins_short s h)
    clear h
    go_enter Tryd.func20, Tryd.ntmps20
    go_wp2_with fail
    go_ret
    rw [HB.out]
    exact ⟨rfl, Below.refl _ _⟩
end Go.Proofs.YtmkhnlfhbiabcaaDoor
