/- Boxes: structs in blocks of a call's own; new rows beside them. -/
import Derived.Test.YtkpiinjhcckhfaaGreatDoorTrWords
import Derived.Test.YtkpiinjhcckhfaaGreatDoorTrCmp
namespace Go.Proofs.YtkpiinjhcckhfaaGreatDoor
open Go.RowKit Plain Go.ChangeShapes Go.WideShapes Go.ChangeAt Go.Great
set_option linter.unusedVariables false
set_option linter.unusedSimpArgs false
def Box (w : World) (b : Nat) (cs : Array Value) (t : TypeId) : Prop := w.heap[b]? = some (.cells cs t (0, 0))
theorem Box.lt {w : World} {b : Nat} {cs : Array Value} {t : TypeId} (h : Box w b cs t) : b < w.heap.size := (Array.getElem?_eq_some_iff.1 h).1
theorem Box.below {w w' : World} {b : Nat} {cs : Array Value} {t : TypeId} (h : Box w b cs t) (hb : Below w.heap.size w w') : Box w' b cs t := (hb.block b (Box.lt h)).trans h
theorem Box.setRow {w : World} {b : Nat} {cs ds : Array Value} {t : TypeId} (h : Box w b cs t) : Box (w.setRow b ds) b ds t := setRow_heap _ _ _ _ _ _ h
theorem Box.setRow_ne {w : World} {b g : Nat} {cs ds : Array Value} {t : TypeId} (h : Box w b cs t) (hg : b ≠ g) : Box (w.setRow g ds) b cs t := (setRow_other w g b ds hg).trans h
theorem Box.setCell {w : World} {b o : Nat} {v : Value} {cs ds : Array Value} {t : TypeId} (h : Box w b cs t) (hd : cs.setIfInBounds o v = ds) : Box (w.setCell ⟨b, o, none⟩ v) b ds t := by subst hd; exact heap_setCell_same w b o _ _ _ h
theorem Box.setCell_ne {w : World} {b g o : Nat} {v : Value} {cs : Array Value} {t : TypeId} (h : Box w b cs t) (hg : b ≠ g) : Box (w.setCell ⟨g, o, none⟩ v) b cs t := (heap_setCell_ne w ⟨g, o, none⟩ v b hg).trans h
theorem Box.setCells {w : World} {b o : Nat} {vs : List Value} {cs ds : Array Value} {t : TypeId} (h : Box w b cs t) (hd : setAll cs o vs = ds) : Box (w.setCells b o vs) b ds t := by subst hd; exact heap_setCells b t vs o w cs h
theorem Box.setCells_ne {w : World} {b g o : Nat} {vs : List Value} {cs : Array Value} {t : TypeId} (h : Box w b cs t) (hg : b ≠ g) : Box (w.setCells g o vs) b cs t := (heap_setCells_ne g b hg vs o w).trans h
theorem Box.new (w : World) (cs : Array Value) (t : TypeId) : Box (w.alloc (.cells cs t)) w.heap.size cs t := heap_alloc_new _ _
theorem Box.alloc {w : World} {b : Nat} {cs : Array Value} {t : TypeId} (h : Box w b cs t) (ob : Obj) : Box (w.alloc ob) b cs t := h.below ((Below.refl _ _).alloc (Nat.le_refl _) _)
theorem Box.range {w : World} {b : Nat} {cs : List Value} {t : TypeId} (h : Box w b cs.toArray t) : w.rangeAt b 0 cs := fun j v hv => by
  rw [cell_of_row _ _ _ _ _ _ h, Nat.zero_add, ← hv]
  simp
theorem Box.there {w : World} {b n : Nat} {cs : Array Value} {t : TypeId} (h : Box w b cs t) (o : Nat) (ho : o + n ≤ cs.size) : w.there b o n := fun j hj => by
  refine ⟨?_, frozen_of_row w b (o + j) _ _ h⟩
  rw [cell_of_row _ _ _ _ _ _ h, Array.getElem?_eq_getElem (by omega)]
  rfl
theorem Box.ch {W : World} {b : Nat} {x : CX} {xv fv : Value} {t : TypeId} (h : Box W b (chA x xv fv) t) (h20 : x.n.length = 20) : ChCells W b x xv fv := ChCells.of h h20
theorem Box.co {W : World} {b : Nat} {c : CC} {pv xv : Value} {t : TypeId} (h : Box W b (coA c pv xv) t) (h20 : c.tr.length = 20) : CoRow W b c pv xv := CoRow.of h h20
/-- A row of extras that lies in blocks from B on. -/
structure Rw (B : Nat) (w : World) (a : Option Addr) (xs : List (ByteArray × ByteArray)) : Prop where
  row : RowAt 2 extE w a xs
  new : ∀ b' off, a = some ⟨b', off, none⟩ → B ≤ b'
theorem Rw.below {B : Nat} {w w' : World} {a : Option Addr} {xs : List (ByteArray × ByteArray)} (h : Rw B w a xs) (hb : Below w.heap.size w w') : Rw B w' a xs := ⟨h.row.below hb, h.new⟩
theorem Rw.lower {B B' : Nat} {w : World} {a : Option Addr} {xs : List (ByteArray × ByteArray)} (h : Rw B w a xs) (hb : B' ≤ B) : Rw B' w a xs := ⟨h.row, fun b' off e => Nat.le_trans hb (h.new b' off e)⟩
theorem Rw.keep {B : Nat} {w w' : World} {a : Option Addr} {xs : List (ByteArray × ByteArray)} (h : Rw B w a xs) (hz : w.heap.size ≤ w'.heap.size) (hk : ∀ k, B ≤ k → k < w.heap.size → w'.heap[k]? = w.heap[k]?) : Rw B w' a xs := by
  refine ⟨?_, h.new⟩
  rcases h.row with h0 | ⟨b', off, e, hl, hc⟩
  · exact .inl h0
  · refine .inr ⟨b', off, e, Nat.lt_of_lt_of_le hl hz, fun j x hj i v hv => ?_⟩
    have := hc j x hj i v hv
    rw [← this]
    unfold World.cell?
    simp only [hk b' (h.new b' off e) hl]
theorem Rw.setRow {B b : Nat} {w : World} {cs : Array Value} {a : Option Addr} {xs : List (ByteArray × ByteArray)} (h : Rw B w a xs) (hb : b < B) : Rw B (w.setRow b cs) a xs := h.keep (by simp [World.setRow]) fun k hk _ => setRow_other w b k cs (by omega)
theorem Rw.setCell {B b o : Nat} {w : World} {v : Value} {a : Option Addr} {xs : List (ByteArray × ByteArray)} (h : Rw B w a xs) (hb : b < B) : Rw B (w.setCell ⟨b, o, none⟩ v) a xs := h.keep (by simp [World.setCell]) fun k hk _ => heap_setCell_ne w ⟨b, o, none⟩ v k (by show k ≠ b; omega)
theorem Rw.nil (B : Nat) (w : World) : Rw B w none [] := ⟨.inl rfl, fun b' off e => by cases e⟩
theorem OwnG.rw {e : TypeId} {w : World} {base : Nat} {v : Value} {xs : List (ByteArray × ByteArray)} (h : OwnG 2 extE e w base v xs) : ∃ a c, v = .slice a xs.length c ∧ Rw base w a xs := by
  obtain ⟨a, c, rfl, h1, -⟩ := h.at extE_len
  exact ⟨a, c, rfl, h1, fun b' off e' => OwnG.base h e'⟩
theorem build_chU (s : ByteArray) (W : World) : (Instr.build 40 #[(1, .string s)]).run Tryz.prog W = .ok (.agg (chA ⟨zeros20, s, 0, 0, [], [], ⟨#[]⟩⟩ (.slice none 0 0) (.slice none 0 0))) W := run_build W _ _ _ (by kernel_rfl)
end Go.Proofs.YtkpiinjhcckhfaaGreatDoor
