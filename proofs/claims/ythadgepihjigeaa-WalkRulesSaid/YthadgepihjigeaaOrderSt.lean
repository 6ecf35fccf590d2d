/- What Order has in memory: rows that lie apart. -/
import Derived.Test.YthadgepihjigeaaPush
import Derived.Test.YthadgepihjigeaaOrderMath
namespace Go.Proofs.Ythadgepihjigeaa
open Go.RowKit Plain
set_option linter.unusedVariables false
/-- A row of numbers that came in. -/
structure Rw where
  a : Option Addr
  cap : Nat
  xs : List Int
def hdr (p : Rw) : Value := .slice p.a p.xs.length p.cap
def IntsAt (w : World) (a : Option Addr) (xs : List Int) : Prop := xs.length = 0 ∨ ∃ b off, a = some ⟨b, off, none⟩ ∧ ∀ j, j < xs.length → w.cell? ⟨b, off + j, none⟩ = some (.int .i64 (at0 xs j))
theorem cell_lt {w : World} {b o : Nat} {v : Value} (h : w.cell? ⟨b, o, none⟩ = some v) : b < w.heap.size := World.block_lt_of_cell? w ⟨b, o, none⟩ h
theorem IntsAt.below {w w' : World} {a : Option Addr} {xs : List Int} (h : IntsAt w a xs) (hb : Below w.heap.size w w') : IntsAt w' a xs := by
  rcases h with h | ⟨b, off, rfl, hc⟩
  · exact .inl h
  · exact .inr ⟨b, off, rfl, fun j hj => (hb.cell (p := ⟨b, off + j, none⟩) (cell_lt (hc j hj))).trans (hc j hj)⟩
/-- Rows of numbers. -/
structure Graph (w : World) (a : Option Addr) (n : Nat) (ps : List Rw) : Prop where
  len : ps.length = n
  rows : n = 0 ∨ ∃ b off, a = some ⟨b, off, none⟩ ∧ ∀ j p, ps[j]? = some p → w.cell? ⟨b, off + j, none⟩ = some (hdr p)
  ints : ∀ p ∈ ps, IntsAt w p.a p.xs
theorem Graph.below {w w' : World} {a : Option Addr} {n : Nat} {ps : List Rw} (h : Graph w a n ps) (hb : Below w.heap.size w w') : Graph w' a n ps := by
  refine ⟨h.len, ?_, fun p hp => (h.ints p hp).below hb⟩
  rcases h.rows with h | ⟨b, off, rfl, hc⟩
  · exact .inl h
  · exact .inr ⟨b, off, rfl, fun j p hj => (hb.cell (p := ⟨b, off + j, none⟩) (cell_lt (hc j p hj))).trans (hc j p hj)⟩
/-- The numbers of a graph's rows. -/
def gr (ps : List Rw) : List (List Int) := ps.map (·.xs)
theorem gr_len (ps : List Rw) : (gr ps).length = ps.length := List.length_map ..
theorem gr_row {ps : List Rw} {x : Nat} {p : Rw} (h : ps[x]? = some p) : row (gr ps) x = p.xs := by
  unfold row gr
  rw [List.getElem?_map, h]
  rfl
theorem own_block {w w' : World} {base n size : Nat} {e : TypeId} {v : Value} {xs : List Value} (h : w.ownsRow base e size v n xs) (hb : ∀ g, v.ownBlock = some g → w'.heap[g]? = w.heap[g]?) : w'.ownsRow base e size v n xs := by
  refine ⟨h.1, ?_⟩
  rcases h.2 with h2 | ⟨g, cap, cur, rfl, h3, h4, h5⟩
  · exact .inl h2
  · exact .inr ⟨g, cap, cur, rfl, h3, (hb g rfl).trans h4, h5⟩
/-- Blocks that differ. -/
def Apart (l : List (Option Nat)) : Prop := ∀ (i j g : Nat), l[i]? = some (some g) → l[j]? = some (some g) → i = j
theorem Apart.set {l : List (Option Nat)} (h : Apart l) {m : Nat} (hlt : ∀ (j g : Nat), l[j]? = some (some g) → g < m) (i : Nat) (b : Option Nat) (hb : l[i]? = some b ∨ ∃ g, b = some g ∧ m ≤ g) : Apart (l.set i b) := by
  intro j k g hj hk
  rw [List.getElem?_set] at hj hk
  by_cases h1 : i = j
  · by_cases h2 : i = k
    · omega
    · rw [if_pos h1] at hj
      rw [if_neg h2] at hk
      split at hj
      · injection hj with hj
        subst hj
        rcases hb with hb | ⟨g', e, hm⟩
        · exact h1.symm.trans (h i k g hb hk)
        · injection e with e
          have := hlt k g hk
          omega
      · cases hj
  · rw [if_neg h1] at hj
    by_cases h2 : i = k
    · rw [if_pos h2] at hk
      split at hk
      · injection hk with hk
        subst hk
        rcases hb with hb | ⟨g', e, hm⟩
        · exact (h j i g hj hb).trans h2
        · injection e with e
          have := hlt j g hj
          omega
      · cases hk
    · rw [if_neg h2] at hk
      exact h j k g hj hk
def blk (O C H : Nat) (hv ov : Value) (cv : List Value) : List (Option Nat) := some O :: some C :: some H :: hv.ownBlock :: ov.ownBlock :: cv.map Value.ownBlock
theorem blk_kid (O C H : Nat) (hv ov : Value) (cv : List Value) (p : Nat) : (blk O C H hv ov cv)[p + 5]? = (cv[p]?).map Value.ownBlock := by
  show (cv.map Value.ownBlock)[p]? = _
  rw [List.getElem?_map]
structure St (w : World) (base O C H n : Nat) (op : List Int) (cv : List Value) (ch : List (List Int)) (hv : Value) (hp : List Int) (ov : Value) (od : List Int) : Prop where
  lo : op.length = n
  lc : cv.length = n
  lh : ch.length = n
  o : w.ownsRow base 3 1 (.slice (some ⟨O, 0, none⟩) n n) n (I64 op)
  c : w.ownsRow base 24 1 (.slice (some ⟨C, 0, none⟩) n n) n cv
  kid : ∀ (p : Nat) (v : Value) (l : List Int), cv[p]? = some v → ch[p]? = some l → w.ownsRow base 3 1 v l.length (I64 l)
  heap : HeapV w H base hv hp
  ord : w.ownsRow base 3 1 ov od.length (I64 od)
  hb : base ≤ H
  apart : Apart (blk O C H hv ov cv)
section
variable {w : World} {base O C H n : Nat} {op : List Int} {cv : List Value} {ch : List (List Int)} {hv : Value} {hp : List Int} {ov : Value} {od : List Int}
theorem St.lt (h : St w base O C H n op cv ch hv hp ov od) : ∀ (j g : Nat), (blk O C H hv ov cv)[j]? = some (some g) → g < w.heap.size := by
  intro j g hj
  match j, hj with
  | 0, hj => injection hj with hj; exact (h.o.lt g hj).2
  | 1, hj => injection hj with hj; exact (h.c.lt g hj).2
  | 2, hj => injection hj with hj; injection hj with hj; subst hj; exact cell_lt h.heap.cell
  | 3, hj => injection hj with hj; exact (h.heap.row.lt g hj).2
  | 4, hj => injection hj with hj; exact (h.ord.lt g hj).2
  | p + 5, hj =>
    rw [blk_kid] at hj
    cases hv' : cv[p]? with
    | none => rw [hv'] at hj; cases hj
    | some v =>
      rw [hv'] at hj
      injection hj with hj
      have hpn : p < ch.length := by
        rw [h.lh, ← h.lc]
        rcases Nat.lt_or_ge p cv.length with h1 | h1
        · exact h1
        · rw [List.getElem?_eq_none h1] at hv'; cases hv'
      exact ((h.kid p v _ hv' (List.getElem?_eq_getElem hpn)).lt g hj).2
theorem St.low (h : St w base O C H n op cv ch hv hp ov od) : base ≤ O ∧ base ≤ C := ⟨(h.o.lt O rfl).1, (h.c.lt C rfl).1⟩
/-- All rows but those of D are as they were. -/
def Same (w w' : World) (l : List (Option Nat)) (D : List Nat) : Prop := ∀ (j k : Nat), j ∉ D → l[j]? = some (some k) → w'.heap[k]? = w.heap[k]?
theorem St.same (h : St w base O C H n op cv ch hv hp ov od) {w' : World} {D : List Nat} (hfr : ∀ k, k < w.heap.size → (∀ d ∈ D, (blk O C H hv ov cv)[d]? ≠ some (some k)) → w'.heap[k]? = w.heap[k]?) : Same w w' (blk O C H hv ov cv) D :=
  fun j k hj hk => hfr k (h.lt j k hk) fun d hd e => hj (by have := h.apart j d k hk e; subst this; exact hd)
theorem Same.own {w w' : World} {l : List (Option Nat)} {D : List Nat} (h : Same w w' l D) {j : Nat} (hj : j ∉ D) {e : TypeId} {v : Value} {m : Nat} {xs : List Value} (hl : l[j]? = some v.ownBlock) (ho : w.ownsRow base e 1 v m xs) : w'.ownsRow base e 1 v m xs :=
  own_block ho fun g hg => h j g hj (by rw [hl, hg])
theorem St.kidAt (h : St w base O C H n op cv ch hv hp ov od) {p : Nat} {v : Value} (hv' : cv[p]? = some v) : (blk O C H hv ov cv)[p + 5]? = some v.ownBlock := by rw [blk_kid, hv']; rfl
theorem Same.heapV {w' : World} {D : List Nat} (h : Same w w' (blk O C H hv ov cv) D) (h2 : 2 ∉ D) (h3 : 3 ∉ D) (hh : HeapV w H base hv hp) : HeapV w' H base hv hp := by
  have hb := h 2 H h2 rfl
  exact ⟨(World.cell?_of_block (a := ⟨H, 0, none⟩) hb).trans hh.cell, h.own h3 rfl hh.row, hh.ne, (World.frozen?_of_block (a := ⟨H, 0, none⟩) hb).trans hh.fro⟩
/-- Nothing of it is changed. -/
theorem St.grow (h : St w base O C H n op cv ch hv hp ov od) {w' : World} (hg : ∀ k, k < w.heap.size → w'.heap[k]? = w.heap[k]?) : St w' base O C H n op cv ch hv hp ov od := by
  have hs := h.same (w' := w') (D := []) fun k hk _ => hg k hk
  exact ⟨h.lo, h.lc, h.lh, hs.own (j := 0) (by simp) rfl h.o, hs.own (j := 1) (by simp) rfl h.c, fun p v l h1 h2 => hs.own (j := p + 5) (by simp) (h.kidAt h1) (h.kid p v l h1 h2), hs.heapV (by simp) (by simp) h.heap, hs.own (j := 4) (by simp) rfl h.ord, h.hb, h.apart⟩
/-- A number of the open row is set. -/
theorem St.setOpen (h : St w base O C H n op cv ch hv hp ov od) (x : Nat) (u : Int) : St (w.setCell ⟨O, x, none⟩ (.int .i64 u)) base O C H n (op.set x u) cv ch hv hp ov od ∧ w.grownBy (w.setCell ⟨O, x, none⟩ (.int .i64 u)) (some O) := by
  obtain ⟨h1, h2⟩ := h.o.stored x (.int .i64 u)
  have hs := h.same (w' := w.setCell ⟨O, x, none⟩ (.int .i64 u)) (D := [0]) fun k hk hd => h2.block k hk fun e => hd 0 (by simp) (by injection e with e; subst e; rfl)
  refine ⟨⟨by rw [List.length_set]; exact h.lo, h.lc, h.lh, by rw [I64_set]; exact h1, hs.own (j := 1) (by simp) rfl h.c, fun p v l h1 h2 => hs.own (j := p + 5) (by simp) (h.kidAt h1) (h.kid p v l h1 h2), hs.heapV (by simp) (by simp) h.heap, hs.own (j := 4) (by simp) rfl h.ord, h.hb, h.apart⟩, h2⟩
/-- A node's children: one more. -/
theorem St.addKid (h : St w base O C H n op cv ch hv hp ov od) {p : Nat} {v : Value} {l : List Int} (hv1 : cv[p]? = some v) (hl : ch[p]? = some l) {w1 : World} {g c : Nat} {x : Int} (hg : w.grownBy w1 v.ownBlock) (ho : w1.ownsRow base 3 1 (.slice (some ⟨g, 0, none⟩) (l.length + 1) c) (l.length + 1) (I64 (l ++ [x]))) (hgg : v.ownBlock = some g ∨ w.heap.size ≤ g) :
    St (w1.setCell ⟨C, p, none⟩ (.slice (some ⟨g, 0, none⟩) (l.length + 1) c)) base O C H n op (cv.set p (.slice (some ⟨g, 0, none⟩) (l.length + 1) c)) (ch.set p (l ++ [x])) hv hp ov od ∧ w1.grownBy (w1.setCell ⟨C, p, none⟩ (.slice (some ⟨g, 0, none⟩) (l.length + 1) c)) (some C) ∧ w1.cell? ⟨C, p, none⟩ = some v ∧ w1.frozen? ⟨C, p, none⟩ = false := by
  have hpv := h.kidAt hv1
  have hpn : p < cv.length := by
    rcases Nat.lt_or_ge p cv.length with h1 | h1
    · exact h1
    · rw [List.getElem?_eq_none h1] at hv1; cases hv1
  have hs1 := h.same (w' := w1) (D := [p + 5]) fun k hk hd => hg.block k hk fun e => hd (p + 5) (by simp) (by rw [hpv, e])
  have hc1 := hs1.own (j := 1) (by simp) rfl h.c
  obtain ⟨h3, h4⟩ := hc1.stored p (.slice (some ⟨g, 0, none⟩) (l.length + 1) c)
  have hgC : g ≠ C := by
    intro e
    subst e
    rcases hgg with hgg | hgg
    · have := h.apart (p + 5) 1 g (by rw [hpv, hgg]) rfl
      omega
    · have := h.lt 1 g rfl
      omega
  have hs := h.same (w' := w1.setCell ⟨C, p, none⟩ (.slice (some ⟨g, 0, none⟩) (l.length + 1) c)) (D := [1, p + 5]) fun k hk hd =>
    (h4.block k (Nat.lt_of_lt_of_le hk hg.size) fun e => hd 1 (by simp) (by injection e with e; subst e; rfl)).trans (hg.block k hk fun e => hd (p + 5) (by simp) (by rw [hpv, e]))
  refine ⟨⟨h.lo, by rw [List.length_set]; exact h.lc, by rw [List.length_set]; exact h.lh, hs.own (j := 0) (by simp) rfl h.o, h3, ?_, hs.heapV (by simp) (by simp) h.heap, hs.own (j := 4) (by simp) rfl h.ord, h.hb, ?_⟩, h4, (hc1.cellAt p (by rw [← h.lc]; omega)).trans hv1, hc1.frozenAt p⟩
  · intro q v' l' hq1 hq2
    by_cases hqp : q = p
    · subst hqp
      rw [List.getElem?_set_self hpn] at hq1
      rw [List.getElem?_set_self (by rw [h.lh, ← h.lc]; exact hpn)] at hq2
      injection hq1 with hq1
      injection hq2 with hq2
      subst hq1 hq2
      rw [List.length_append, List.length_singleton]
      exact ho.kept h4 (.inr fun e => hgC (by injection e))
    · rw [List.getElem?_set_ne (Ne.symm hqp)] at hq1 hq2
      exact hs.own (j := q + 5) (by simp; omega) (h.kidAt hq1) (h.kid q v' l' hq1 hq2)
  · have e : blk O C H hv ov (cv.set p (.slice (some ⟨g, 0, none⟩) (l.length + 1) c)) = (blk O C H hv ov cv).set (p + 5) (some g) := by
      unfold blk
      simp only [List.map_set]
      rfl
    rw [e]
    refine h.apart.set h.lt (p + 5) (some g) ?_
    rcases hgg with hgg | hgg
    · exact .inl (by rw [hpv, hgg])
    · exact .inr ⟨g, rfl, hgg⟩
/-- The heap: one more, or one less. -/
theorem St.newHeap (h : St w base O C H n op cv ch hv hp ov od) {w' : World} {g c : Nat} {ys : List Int} (hh : HeapAt w' H base g c ys) (hgg : hv.ownBlock = some g ∨ w.heap.size ≤ g) (hfr : ∀ k, k < w.heap.size → k ≠ H → hv.ownBlock ≠ some k → w'.heap[k]? = w.heap[k]?) :
    St w' base O C H n op cv ch (.slice (some ⟨g, 0, none⟩) ys.length c) ys ov od := by
  have hs := h.same (w' := w') (D := [2, 3]) fun k hk hd => hfr k hk (fun e => hd 2 (by simp) (by subst e; rfl)) (fun e => hd 3 (by simp) (by rw [← e]; rfl))
  refine ⟨h.lo, h.lc, h.lh, hs.own (j := 0) (by simp) rfl h.o, hs.own (j := 1) (by simp) rfl h.c, fun p v l h1 h2 => hs.own (j := p + 5) (by simp) (h.kidAt h1) (h.kid p v l h1 h2), hh.v, hs.own (j := 4) (by simp) rfl h.ord, h.hb, ?_⟩
  have e : blk O C H (.slice (some ⟨g, 0, none⟩) ys.length c) ov cv = (blk O C H hv ov cv).set 3 (some g) := rfl
  rw [e]
  refine h.apart.set h.lt 3 (some g) ?_
  rcases hgg with hgg | hgg
  · exact .inl (by rw [← hgg]; rfl)
  · exact .inr ⟨g, rfl, hgg⟩
theorem below_push {b : Nat} {w0 w w' : World} {H : Nat} {v : Value} (h : Below b w0 w) (hf : FrP w w' H v) (hs : b ≤ w.heap.size) (hH : b ≤ H) (hv : ∀ g, v.ownBlock = some g → b ≤ g) : Below b w0 w' :=
  ⟨hf.os.trans h.os, hf.tape.trans h.tape, hf.output.trans h.output, Nat.le_trans h.size hf.size, fun k hk => (hf.block k (Nat.lt_of_lt_of_le hk hs) (by omega) (fun e => by have := hv k e; omega)).trans (h.block k hk)⟩
theorem below_pop {b : Nat} {w0 w w' : World} {H g : Nat} (h : Below b w0 w) (hf : Fr2 w w' H g) (hs : b ≤ w.heap.size) (hH : b ≤ H) (hg : b ≤ g) : Below b w0 w' :=
  ⟨hf.os.trans h.os, hf.tape.trans h.tape, hf.output.trans h.output, Nat.le_trans h.size hf.size, fun k hk => (hf.block k (Nat.lt_of_lt_of_le hk hs) (by omega) (by omega)).trans (h.block k hk)⟩
/-- The order: another row, or one more. -/
theorem St.newOrd (h : St w base O C H n op cv ch hv hp ov od) {w' : World} {v : Value} {ys : List Int} (ho : w'.ownsRow base 3 1 v ys.length (I64 ys)) (hgg : v.ownBlock = ov.ownBlock ∨ ∃ g, v.ownBlock = some g ∧ w.heap.size ≤ g) (hg : w.grownBy w' ov.ownBlock) :
    St w' base O C H n op cv ch hv hp v ys := by
  have hs := h.same (w' := w') (D := [4]) fun k hk hd => hg.block k hk fun e => hd 4 (by simp) (by rw [e]; rfl)
  refine ⟨h.lo, h.lc, h.lh, hs.own (j := 0) (by simp) rfl h.o, hs.own (j := 1) (by simp) rfl h.c, fun p v l h1 h2 => hs.own (j := p + 5) (by simp) (h.kidAt h1) (h.kid p v l h1 h2), hs.heapV (by simp) (by simp) h.heap, ho, h.hb, ?_⟩
  have e : blk O C H hv v cv = (blk O C H hv ov cv).set 4 v.ownBlock := rfl
  rw [e]
  refine h.apart.set h.lt 4 v.ownBlock ?_
  rcases hgg with hgg | ⟨g, e2, hm⟩
  · exact .inl (by rw [hgg]; rfl)
  · exact .inr ⟨g, e2, hm⟩
end
end Go.Proofs.Ythadgepihjigeaa
