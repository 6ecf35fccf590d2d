/- A byte of a row is set. -/
import Derived.Test.YtkpnmagcmpljoaaFlush
namespace Go.Proofs.Ytkpnmagcmpljoaa
open Go.RowKit
set_option linter.unusedVariables false
theorem Mid.set {w : World} {base g o n c : Nat} {xs : List Int} (h : Mid w base (.slice (some ⟨g, o, none⟩) n c) n xs) (j : Nat) (hj : j < n) (y : Int) :
    Mid (w.setCell ⟨g, o + j, none⟩ (.int .u8 y)) base (.slice (some ⟨g, o, none⟩) n c) n (xs.set j y) := by
  obtain ⟨hl, ⟨e, h0⟩ | ⟨g', o', cap, e, hb, hlt, hn, hc, hr, ht⟩⟩ := h
  · omega
  · simp only [Value.slice.injEq, Option.some.injEq, Addr.mk.injEq, true_and, and_true] at e
    obtain ⟨⟨rfl, rfl⟩, rfl⟩ := e
    refine ⟨by rw [List.length_set]; exact hl, .inr ⟨g, o, c, rfl, hb, ?_, hn, hc, ?_, World.there_setCells ht g (o + j) [.int .u8 y]⟩⟩
    · rw [World.size_setCell]; exact hlt
    · intro i v hv
      unfold U8 at hv
      rw [List.getElem?_map] at hv
      by_cases hij : i = j
      · subst hij
        rw [List.getElem?_set_self (by omega)] at hv
        injection hv with hv
        subst hv
        refine World.cell?_setCell_same w _ _ (u := .int .u8 (xs[i]?.getD 0)) (hr i _ ?_)
        unfold U8
        rw [List.getElem?_map, List.getElem?_eq_getElem (by omega)]; rfl
      · rw [List.getElem?_set_ne (fun e => hij e.symm)] at hv
        rw [World.cell?_setCell_other w _ _ _ (by intro e; injection e with e1 e2 e3; omega)]
        refine hr i v ?_
        unfold U8
        rw [List.getElem?_map]; exact hv
theorem raw_set {w : World} {s0 Wb Mb dn dc pn g o : Nat} {D P : List Int} {pv : Value} (h : Raw w s0 Wb Mb (.slice (some ⟨g, o, none⟩) dn dc) dn D pv pn P) (hs : s0 ≤ w.heap.size) (j : Nat) (hj : j < dn) (y : Int) :
    Raw (w.setCell ⟨g, o + j, none⟩ (.int .u8 y)) s0 Wb Mb (.slice (some ⟨g, o, none⟩) dn dc) dn (D.set j y) pv pn P ∧ Fr s0 Mb w (w.setCell ⟨g, o + j, none⟩ (.int .u8 y)) := by
  have hL := h.lt
  obtain ⟨hh, hd, hp, h1, h2, h3, h4, h5, h6, h7, h8⟩ := h
  have hset := grownBy_set1 w g (o + j) (.int .u8 y)
  have e0 : (Value.slice (some (⟨g, o, none⟩ : Addr)) dn dc).ownBlock = some g := rfl
  have h8' : pv.ownBlock = none ∨ pv.ownBlock ≠ some g := by
    rcases h8 with e | e
    · rw [e0] at e; cases e
    · exact .inr (fun e' => e (by rw [e0, e']))
  have hge := hd.block_ge g rfl
  rw [e0] at h4 h5
  refine ⟨⟨(hset.block Wb hL (fun e => h4 e.symm)).trans hh, hd.set j hj y, hp.kept hset h8', h1, h2, ?_, by rw [e0]; exact h4, by rw [e0]; exact h5, h6, h7, h8⟩, ?_⟩
  · rw [World.size_setCell]; exact h3
  · exact (Fr.refl _ _ _).grown hset hs h3 (fun k hk => by injection hk with hk; omega) h5
end Go.Proofs.Ytkpnmagcmpljoaa
