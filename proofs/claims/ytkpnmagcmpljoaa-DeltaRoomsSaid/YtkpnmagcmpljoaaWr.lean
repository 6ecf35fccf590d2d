/- The writer of a delta in memory: its row and what is pending; one byte more. -/
import Derived.Test.YtkpnmagcmpljoaaMid
import Derived.WalkMore
import Derived.Lib.Hide
namespace Go.Proofs.Ytkpnmagcmpljoaa
open Go.RowKit
set_option linter.unusedVariables false
/-- The writer at block Wb: what is written, what is pending; neither lies in block Mb, nor below s0. -/
def Wr (w : World) (s0 Wb Mb : Nat) (D P : List Int) : Prop :=
  ∃ dv pv dn pn, w.heap[Wb]? = some (.cells #[dv, pv] 48 (0, 0)) ∧ Mid w s0 dv dn D ∧ Mid w s0 pv pn P ∧ s0 ≤ Wb ∧ Wb ≠ Mb ∧ Mb < w.heap.size ∧
    dv.ownBlock ≠ some Wb ∧ dv.ownBlock ≠ some Mb ∧ pv.ownBlock ≠ some Wb ∧ pv.ownBlock ≠ some Mb ∧ (dv.ownBlock = none ∨ dv.ownBlock ≠ pv.ownBlock)
/-- What lies below s0 and in Mb is as it was. -/
structure Fr (s0 Mb : Nat) (w w' : World) : Prop where
  below : Below s0 w w'
  keeps : w'.heap[Mb]? = w.heap[Mb]?
theorem Fr.refl (s0 Mb : Nat) (w : World) : Fr s0 Mb w w := ⟨Below.refl _ _, rfl⟩
theorem Fr.trans {s0 Mb : Nat} {a b c : World} (h1 : Fr s0 Mb a b) (h2 : Fr s0 Mb b c) : Fr s0 Mb a c := ⟨h1.below.trans h2.below, h2.keeps.trans h1.keeps⟩
theorem Fr.grown {s0 Mb : Nat} {a w w' : World} {row : Option Nat} (h : Fr s0 Mb a w) (hg : w.grownBy w' row) (hs : s0 ≤ w.heap.size) (hm : Mb < w.heap.size) (hr : ∀ k, row = some k → s0 ≤ k) (hM : row ≠ some Mb) : Fr s0 Mb a w' :=
  ⟨h.below.grown hg hs hr, (hg.block Mb hm (fun e => hM e.symm)).trans h.keeps⟩
theorem grownBy_set1 (w : World) (g i : Nat) (v : Value) : w.grownBy (w.setCell ⟨g, i, none⟩ v) (some g) := by
  refine ⟨rfl, rfl, rfl, ?_, fun k hk hne => ?_⟩
  · rw [World.size_setCell]; exact Nat.le_refl _
  · exact Below.heap_setCell w _ v k (fun e => hne (by rw [e]))
theorem Mid.block_ge {w : World} {base : Nat} {v : Value} {n : Nat} {xs : List Int} (h : Mid w base v n xs) : ∀ k, v.ownBlock = some k → base ≤ k ∧ k < w.heap.size := by
  intro k hk
  obtain ⟨h1, ⟨rfl, rfl⟩ | ⟨g, o, cap, rfl, hb, hlt, -⟩⟩ := h
  · cases hk
  · simp only [Value.ownBlock, Option.some.injEq] at hk
    subst hk
    exact ⟨hb, hlt⟩
/-- Another row is pending. -/
theorem wr_pend {w : World} {s0 Wb Mb : Nat} {D P : List Int} {dv pv v : Value} {dn n : Nat} (hh : w.heap[Wb]? = some (.cells #[dv, pv] 48 (0, 0))) (hd : Mid w s0 dv dn D) (hp : Mid w s0 v n P)
    (h1 : s0 ≤ Wb) (h2 : Wb ≠ Mb) (h3 : Mb < w.heap.size) (h4 : dv.ownBlock ≠ some Wb) (h5 : dv.ownBlock ≠ some Mb) (h6 : v.ownBlock ≠ some Wb) (h7 : v.ownBlock ≠ some Mb) (h8 : dv.ownBlock = none ∨ dv.ownBlock ≠ v.ownBlock) :
    Wr (w.setCell ⟨Wb, 1, none⟩ v) s0 Wb Mb D P := by
  have hg := grownBy_set1 w Wb 1 v
  refine ⟨dv, v, dn, n, (heap_setCell_same w Wb 1 _ _ v hh).trans rfl, hd.kept hg (.inr h4), hp.kept hg (.inr h6), h1, h2, ?_, h4, h5, h6, h7, h8⟩
  rw [World.size_setCell]; exact h3
/-- Another row is written. -/
theorem wr_row {w : World} {s0 Wb Mb : Nat} {D P : List Int} {dv pv v : Value} {pn n : Nat} (hh : w.heap[Wb]? = some (.cells #[dv, pv] 48 (0, 0))) (hd : Mid w s0 v n D) (hp : Mid w s0 pv pn P)
    (h1 : s0 ≤ Wb) (h2 : Wb ≠ Mb) (h3 : Mb < w.heap.size) (h4 : v.ownBlock ≠ some Wb) (h5 : v.ownBlock ≠ some Mb) (h6 : pv.ownBlock ≠ some Wb) (h7 : pv.ownBlock ≠ some Mb) (h8 : v.ownBlock = none ∨ v.ownBlock ≠ pv.ownBlock) :
    Wr (w.setCell ⟨Wb, 0, none⟩ v) s0 Wb Mb D P := by
  have hg := grownBy_set1 w Wb 0 v
  refine ⟨v, pv, n, pn, (heap_setCell_same w Wb 0 _ _ v hh).trans rfl, hd.kept hg (.inr h4), hp.kept hg (.inr h6), h1, h2, ?_, h4, h5, h6, h7, h8⟩
  rw [World.size_setCell]; exact h3
/-- A world that has more blocks. -/
theorem Wr.below {w w' : World} {s0 Wb Mb : Nat} {D P : List Int} (h : Wr w s0 Wb Mb D P) (hb : Below w.heap.size w w') : Wr w' s0 Wb Mb D P := by
  obtain ⟨dv, pv, dn, pn, hh, hd, hp, h1, h2, h3, h4⟩ := h
  have hlt : Wb < w.heap.size := by
    rcases Nat.lt_or_ge Wb w.heap.size with h | h
    · exact h
    · rw [Array.getElem?_eq_none h] at hh; cases hh
  exact ⟨dv, pv, dn, pn, (hb.block Wb hlt).trans hh, hd.below hb, hp.below hb, h1, h2, Nat.lt_of_lt_of_le h3 hb.size, h4⟩
theorem src_bytes {w : World} {a : Option Addr} {m c : Nat} {ys : List Int} (h : Bytes w a m ys) : Src Try.prog 1 22 (.slice a m c) m (U8 ys) w := by
  obtain ⟨h1, h2, h3, rfl | ⟨b, off, rfl, hc⟩⟩ := h
  · obtain rfl : ys = [] := List.eq_nil_of_length_eq_zero h1
    cases a with
    | none => exact Src.ofNil w Try.underlying22 c
    | some x => exact Src.ofSlice w Try.underlying22 x 0 c [] rfl (fun j u hu => by simp at hu) (fun u hu => by cases hu)
  · refine Src.ofSlice w Try.underlying22 ⟨b, off, none⟩ m c (U8 ys) (by rw [U8_length]; omega) (fun j u hu => ?_) (U8_one ys)
    rw [Addr.add_mid]
    have hj : j < ys.length := by
      rcases Nat.lt_or_ge j ys.length with h | h
      · exact h
      · rw [List.getElem?_eq_none (by rw [U8_length]; exact h)] at hu; cases hu
    rw [hc j (by omega)]
    unfold U8 at hu
    rw [List.getElem?_map, List.getElem?_eq_getElem hj] at hu
    rw [List.getElem?_eq_getElem hj]
    exact hu
theorem wpList_append_mid {w : World} {ops : Array Oper} {rest : List Oper} {o : Oper} {ac : Act} {Q : Exit → Act → World → Prop} (hgd : o.guard = none) (s x : Operand) (tx : TypeId)
    (ho : o.op = .call { callee := .builtin .append, args := #[s, x], argTypes := #[22, tx] })
    (base : Nat) (v : Value) (n : Nat) (xs : List Int) (hs : ac.eval s = v) (hown : Mid w base v n xs) (xv : Value) (m : Nat) (ys : List Int) (hx : ac.eval x = xv) (hsrc : Src Try.prog 1 tx xv m (U8 ys) w)
    (hsum : n + m ≤ 70368744177664) (hbase : base ≤ w.heap.size)
    (h : ∀ v' w', Mid w' base v' (n + m) (xs ++ ys) → w.grownBy w' v.ownBlock → (v'.ownBlock = v.ownBlock ∨ v'.ownBlock = some w.heap.size) → wpList Try.prog ops Q rest (ac.put o.dst v') w') : wpList Try.prog ops Q (o :: rest) ac w := by
  refine wpList_plain hgd fun K hK => ?_
  obtain ⟨v', w', hrun, r1, r2, r3⟩ := mid_append w o.type tx base v n xs hown xv m ys hsrc hsum hbase
  unfold Oper.wp
  simp [execOp, ho, resolve, invoke, builtin, hs, hx, hrun, Result.andThen]
  exact hK _ _ (h v' w' r1 r2 r3)
theorem unhid {p : Prop} (h : p) : Hid p := h
theorem cell_row0 (W : World) (b k : Nat) (cs : Array Value) (t : TypeId) (fz : Nat × Nat) (h : W.heap[b]? = some (.cells cs t fz)) : W.cell? ⟨b, k, none⟩ = cs[k]? := by simp [World.cell?, h]
theorem free_row0 (W : World) (b k : Nat) (cs : Array Value) (t : TypeId) (h : W.heap[b]? = some (.cells cs t (0, 0))) : W.frozen? ⟨b, k, none⟩ = false := by simp [World.frozen?, h]
theorem side_grown {w wA w2 : World} {s0 Wb Mb on cn : Nat} {O C : List Int} {ov cv v2 : Value} (hL : Wb < w.heap.size) (hb : Below w.heap.size w wA) (hO : Mid w s0 ov on O) (hC : Mid w s0 cv cn C)
    (h3 : Mb < w.heap.size) (h4 : ov.ownBlock ≠ some Wb) (h5 : ov.ownBlock ≠ some Mb) (h6 : cv.ownBlock ≠ some Wb) (h7 : cv.ownBlock ≠ some Mb) (h8 : ov.ownBlock = none ∨ ov.ownBlock ≠ cv.ownBlock) (hs : s0 ≤ w.heap.size)
    (hg : wA.grownBy w2 cv.ownBlock) (ho : v2.ownBlock = cv.ownBlock ∨ v2.ownBlock = some wA.heap.size) :
    w2.heap[Wb]? = w.heap[Wb]? ∧ Mid w2 s0 ov on O ∧ Mb < w2.heap.size ∧ v2.ownBlock ≠ some Wb ∧ v2.ownBlock ≠ some Mb ∧ (ov.ownBlock = none ∨ ov.ownBlock ≠ v2.ownBlock) ∧ Fr s0 Mb w w2 := by
  have hsz := hb.size
  have hcb := hC.block_ge
  have hob := hO.block_ge
  refine ⟨(hg.block Wb (by omega) (fun e => h6 e.symm)).trans (hb.block Wb hL), (hO.below hb).kept hg h8, Nat.lt_of_lt_of_le h3 (Nat.le_trans hsz hg.size), ?_, ?_, ?_, ?_⟩
  · rcases ho with e | e
    · rw [e]; exact h6
    · rw [e]; intro e'; injection e' with e'; omega
  · rcases ho with e | e
    · rw [e]; exact h7
    · rw [e]; intro e'; injection e' with e'; omega
  · rcases ho with e | e
    · rw [e]; exact h8
    · rw [e]
      cases hov : ov.ownBlock with
      | none => exact .inl rfl
      | some k =>
        right
        intro e'
        injection e' with e'
        have := (hob k hov).2
        omega
  · have f1 : Fr s0 Mb w wA := ⟨(Below.refl s0 w).trans (hb.mono hs), hb.block Mb h3⟩
    exact f1.grown hg (by omega) (by omega) (fun k hk => (hcb k hk).1) h7
set_option maxRecDepth 100000 in
set_option maxHeartbeats 4000000 in
theorem insert_any (s0 Wb Mb : Nat) (D P : List Int) (x : Nat) (hx : x ≤ 255) (hP : P.length ≤ 1000000000) (w : World) (hs : s0 ≤ w.heap.size) (H : Wr w s0 Wb Mb D P) :
    Calls Try.prog 22 #[.pointer (some ⟨Wb, 0, none⟩), .int .u8 (x : Int)] w fun e w' => e = .returned (.tuple #[]) ∧ Wr w' s0 Wb Mb D (P ++ [(x : Int)]) ∧ Fr s0 Mb w w' := by
  obtain ⟨dv, pv, dn, pn, hh, hd, hp, h1, h2, h3, h4, h5, h6, h7, h8⟩ := H
  have hpn : pn = P.length := hp.1.symm
  have HL := Lib.hid (show Wb < w.heap.size by
    rcases Nat.lt_or_ge Wb w.heap.size with h | h
    · exact h
    · rw [Array.getElem?_eq_none h] at hh; cases hh)
  have HH := Lib.hid hh
  have HD := Lib.hid hd
  have HP := Lib.hid hp
  have hc1 : w.cell? ⟨Wb, 1, none⟩ = some pv := cell_row0 w Wb 1 _ _ _ hh
  have hb0 : Below w.heap.size w (w.alloc (.cells #[.int .u8 (x : Int)] 5)) := (Below.refl _ _).alloc (Nat.le_refl _) _
  have HBB := Lib.hid hb0
  clear hh hd hp hb0
  go_enter Try.func22, Try.ntmps22
  have tok : True := trivial
  go_wp2_with (
    have _t := tok
    at_builtin
    refine wpList_append_mid rfl _ _ 22 rfl s0 pv pn P rfl (HP.out.below HBB.out) _ 1 [(x : Int)] rfl (src_bytes (Bytes.lit w w.heap.size rfl [(x : Int)] 5 (0, 0) 1 rfl (by omega) (by intro y hy; simp at hy; omega))) (by omega) (by simp; omega) ?_
    intro v2 w2 hm2 hg2 ho2
    have HM2 := Lib.hid hm2
    have HG2 := Lib.hid hg2
    have HO2 := Lib.hid ho2
    clear tok hm2 hg2 ho2
    refine Hid.out ?_)
  refine unhid ?_
  obtain ⟨g1, g2, g3, g4, g5, g6, g7⟩ := side_grown HL.out HBB.out HD.out HP.out h3 h4 h5 h6 h7 h8 hs HG2.out HO2.out
  have g1' := g1.trans HH.out
  have hc2 : w2.cell? ⟨Wb, 1, none⟩ = some pv := cell_row0 w2 Wb 1 _ _ _ g1'
  have hf2 : w2.frozen? ⟨Wb, 1, none⟩ = false := free_row0 w2 Wb 1 _ _ g1'
  have HW := Lib.hid (wr_pend g1' g2 HM2.out h1 h2 g3 h4 h5 g4 g5 g6)
  have HF : Hid (Fr s0 Mb w (w2.setCell ⟨Wb, 1, none⟩ v2)) := g7.grown (grownBy_set1 w2 Wb 1 v2) (by have := g7.below.size; omega) g3 (fun k hk => by injection hk with hk; omega) (fun e => by injection e with e; exact h2 e)
  obtain ⟨va, vn, vc, hv2⟩ : ∃ va vn vc, v2 = .slice va vn vc := by
    obtain ⟨a, c, e, -⟩ := HM2.out.shape
    exact ⟨a, _, c, e⟩
  subst hv2
  clear g1 g1' g2 g3 g4 g5 g6 g7 hc1 h1 h2 h3 h4 h5 h6 h7 h8
  go_wp2_with fail
  go_end0
  exact ⟨rfl, HW.out, HF.out⟩
end Go.Proofs.Ytkpnmagcmpljoaa
