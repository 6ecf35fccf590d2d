/- A byte more at a captured slice: the walk. -/
import Derived.Test.YtkpnmagcmpljoaaBytes
import Derived.OwnWalk
namespace Go.Proofs.Ytkpnmagcmpljoaa
open Go.RowKit
set_option linter.unusedVariables false
/-- A slice variable in a block of its own, that holds a row of the call's own from the block behind on. -/
structure Held (w : World) (B : Nat) (a : Option Addr) (n c : Nat) (xs : List Int) : Prop where
  cell : w.heap[B]? = some (.cells #[.slice a n c] 22 (0, 0))
  own : Own w (B + 1) (.slice a n c) n xs
theorem held_nil (w : World) : Held (w.alloc (.cells #[.slice none 0 0] 22)) w.heap.size none 0 0 [] := ⟨heap_alloc_new w _, rfl, .inl ⟨rfl, rfl⟩⟩
theorem Held.lt {w : World} {B : Nat} {a : Option Addr} {n c : Nat} {xs : List Int} (h : Held w B a n c xs) : B < w.heap.size := by
  rcases Nat.lt_or_ge B w.heap.size with g | g
  · exact g
  · have := h.cell
    simp [Array.getElem?_eq_none g] at this
theorem own_setCell {w : World} {base B : Nat} {v : Value} {n : Nat} {xs : List Int} (h : Own w base v n xs) (hB : B < base) (u : Value) : Own (w.setCell ⟨B, 0, none⟩ u) base v n xs := by
  obtain ⟨h1, h2 | ⟨g, cap, cur, h3, h4, h5, h6⟩⟩ := h
  · exact ⟨h1, .inl h2⟩
  · exact ⟨h1, .inr ⟨g, cap, cur, h3, h4, (Below.heap_setCell w _ _ _ (by show g ≠ B; omega)).trans h5, h6⟩⟩
theorem own_lit1 (w : World) (x : Int) : Own (w.alloc (.cells #[.int .u8 x] 5)) w.heap.size (.slice (some ⟨w.heap.size, 0, none⟩) 1 1) 1 [x] :=
  ⟨rfl, .inr ⟨w.heap.size, 1, #[.int .u8 x], rfl, Nat.le_refl _, by show (w.heap.push _)[w.heap.size]? = _; simp, Nat.le_refl _, by unfold maxLen; omega, rfl, rfl⟩⟩
theorem cell_of_row0 (W : World) (B k : Nat) (cs : Array Value) (t : TypeId) (h : W.heap[B]? = some (.cells cs t (0, 0))) : W.cell? ⟨B, k, none⟩ = cs[k]? := by simp [World.cell?, h]
theorem gather_any (B x : Nat) (a : Option Addr) (n c : Nat) (xs : List Int) (w : World) (hx : x < 256) (hn : n ≤ 1000000) (H : Held w B a n c xs) :
    Calls Try.prog 30 #[.int .i64 (x : Int), .pointer (some ⟨B, 0, none⟩)] w fun e w' => e = .returned (.tuple #[]) ∧ (∃ a' c', Held w' B a' (n + 1) c' (xs ++ [(x : Int)])) ∧ Below B w w' := by
  have HH : Hid (Held w B a n c xs) := H
  have c0 : w.cell? ⟨B, 0, none⟩ = some (.slice a n c) := (cell_of_row0 _ _ 0 _ _ H.cell).trans rfl
  have HLT : Hid (B < w.heap.size) := H.lt
  have hw8 : IntKind.u8.wrap (x : Int) = (x : Int) := by rw [IntKind.wrap_u8]; omega
  have HB0 : Hid (Below w.heap.size w (w.alloc (.cells #[.int .u8 (x : Int)] 5))) := (Below.refl _ _).alloc (Nat.le_refl _) _
  have HO0 : Hid (Own (w.alloc (.cells #[.int .u8 (x : Int)] 5)) (B + 1) (.slice a n c) n xs) := HH.out.own.below HB0.out
  have HL0 : Hid (Bytes (w.alloc (.cells #[.int .u8 (x : Int)] 5)) (some ⟨w.heap.size, 0, none⟩) 1 [(x : Int)]) := Bytes.lit w _ rfl [(x : Int)] 5 (0, 0) 1 rfl (by omega) (by simp; omega)
  clear H
  go_enter Try.func30, Try.ntmps30
  go_wp2_with (
    at_builtin
    refine wpList_append_bytes rfl _ _ rfl (B + 1) _ n xs rfl HO0.out _ 1 1 [(x : Int)] rfl HL0.out (fun e => by cases e) (by omega) (Nat.le_trans HLT.out HB0.out.size) ?_
    intro v' w4 hown4 hg4
    have HW4 : Hid (Below (B + 1) w w4) := (HB0.out.mono HLT.out).trans (HO0.out.kept (Nat.le_trans HLT.out HB0.out.size) hg4)
    have HO4 : Hid (Own w4 (B + 1) v' (n + 1) (xs ++ [(x : Int)])) := hown4
    obtain ⟨a4, c4, e4, -, -, -⟩ := hown4.shape
    subst e4
    have HC4 : Hid (w4.heap[B]? = some (.cells #[.slice a n c] 22 (0, 0))) := (HW4.out.block B (by omega)).trans HH.out.cell
    have c4' : w4.cell? ⟨B, 0, none⟩ = some (.slice a n c) := (cell_of_row0 _ _ 0 _ _ HC4.out).trans rfl
    have f4' : w4.frozen? ⟨B, 0, none⟩ = false := by simp [World.frozen?, HC4.out]
    clear hown4 hg4)
  go_end0
  exact ⟨rfl, ⟨a4, c4, (heap_setCell_same w4 B 0 _ _ _ HC4.out).trans rfl, own_setCell HO4.out (Nat.lt_succ_self B) _⟩, (HW4.out.mono (Nat.le_succ B)).setCell (Nat.le_refl _) _⟩
end Go.Proofs.Ytkpnmagcmpljoaa
