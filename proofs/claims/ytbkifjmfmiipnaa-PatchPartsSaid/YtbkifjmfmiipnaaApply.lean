/- What a base becomes by a patch: the walk. -/
import Derived.Test.YtbkifjmfmiipnaaIter
import Derived.Test.YtbkifjmfmiipnaaRound
import Derived.Test.YtbkifjmfmiipnaaBe
import Derived.Deep.RegionHeld
namespace Go.Proofs.Ytbkifjmfmiipnaa
open Go.RowKit Plain Go.Shelf
set_option linter.unusedVariables false
attribute [local go_sem] Oper.semAt_some
theorem hunks_stops (n : Nat) (hn : 1 ≤ n) (Bn : Nat) (a : Option Addr) (m cap : Nat) (xs : List Int) (w w1 : World) (hmc : m ≤ cap) (hnil : a = none → cap = 0) (hlim : m ≤ 1000000) (HB : Bytes w a m xs)
    (hb : Below w.heap.size w w1) (hlt : Bn < w1.heap.size) (hc : w1.cell? ⟨Bn, 0, none⟩ = some (.slice a m cap)) :
    SeqStopsK Fence.wide n Try.prog 23 #[.pointer (some ⟨Bn, 0, none⟩)] (fun x : Raws w m => rawVals x) (Below w.heap.size) (fun ys => hks ys = hunksOf xs) (fun pre => hks pre <+: hunksOf xs) (xs.length + 1) w1 := fun l J Jx W hW hJ hJx hY h0 =>
  hunks1_in n hn l Bn w.heap.size a m cap xs w hmc hnil hlim HB rfl J Jx hY (fun pre A B h hg => hJ pre A B none h hg (fun r e => by cases e)) W (hb.trans (hW.mono hb.size)) ((hW.cell (p := ⟨Bn, 0, none⟩) hlt).trans hc) h0
theorem hunks_any (a : Option Addr) (m cap : Nat) (w : World) :
    Calls Try.prog 17 #[.slice a m cap] w fun e w' => e = .returned (.func (.func 23) #[] #[.pointer (some ⟨w.heap.size, 0, none⟩)]) ∧ w' = w.alloc (.cells #[.slice a m cap] 22) := by
  go_enter Try.func17, Try.ntmps17
  go_wp2_with fail
  go_ret
  exact ⟨rfl, rfl⟩
/-- What lies in memory between two rounds. -/
structure ApSt (w W : World) (a0 : Option Addr) (m0 c0 : Nat) (v : Value) (p : Nat) (out : List Int) : Prop where
  base : Boxed W w.heap.size 22 (.slice a0 m0 c0)
  r1 : Boxed W (w.heap.size + 1) 22 (.slice none 0 0)
  r2 : Boxed W (w.heap.size + 1 + 1) 28 (.int .i64 0)
  res : Boxed W (w.heap.size + 1 + 1 + 1) 22 v
  pos : Boxed W (w.heap.size + 1 + 1 + 1 + 1) 3 (.int .i64 (p : Int))
  own : Own W (w.heap.size + 6) v out.length out
  bel : Below w.heap.size w W
  sz : w.heap.size + 6 ≤ W.heap.size
theorem cell_of_row (W : World) (B k : Nat) (cs : Array Value) (t : TypeId) (h : W.heap[B]? = some (.cells cs t (0, 0))) : W.cell? ⟨B, k, none⟩ = cs[k]? := by simp [World.cell?, h]
theorem boxed_turn {W W' : World} {row : Option Nat} {B : Nat} {t : TypeId} {v : Value} (h : Boxed W B t v) (hg : W.grownBy W' row) (hr : ∀ r, row = some r → ∃ o : Obj, W.heap[r]? = some o ∧ o.isCells = false) : Boxed W' B t v := by
  refine h.kept hg fun e => ?_
  obtain ⟨o, ho, hc⟩ := hr B e.symm
  rw [show W.heap[B]? = _ from h] at ho; cases ho; cases hc
theorem row_turn {W W' : World} {row : Option Nat} {B : Nat} {cs : Array Value} {t : TypeId} (h : W.heap[B]? = some (.cells cs t (0, 0))) (hg : W.grownBy W' row) (hr : ∀ r, row = some r → ∃ o : Obj, W.heap[r]? = some o ∧ o.isCells = false) : W'.heap[B]? = some (.cells cs t (0, 0)) := by
  refine (hg.block B (Array.getElem?_eq_some_iff.1 h).1 fun e => ?_).trans h
  obtain ⟨o, ho, hc⟩ := hr B e.symm
  rw [h] at ho; cases ho; cases hc
theorem ApSt.turn {w W W' : World} {a0 : Option Addr} {m0 c0 : Nat} {v : Value} {p : Nat} {out : List Int} (h : ApSt w W a0 m0 c0 v p out) {row : Option Nat} (hg : W.grownBy W' row)
    (hr : ∀ r, row = some r → w.heap.size ≤ r ∧ ∃ o : Obj, W.heap[r]? = some o ∧ o.isCells = false) : ApSt w W' a0 m0 c0 v p out :=
  have hr' := fun r e => (hr r e).2
  ⟨boxed_turn h.base hg hr', boxed_turn h.r1 hg hr', boxed_turn h.r2 hg hr', boxed_turn h.res hg hr', boxed_turn h.pos hg hr', h.own.turn hg hr', h.bel.grown hg h.bel.size (fun k e => (hr k e).1), Nat.le_trans h.sz hg.size⟩
theorem ApSt.alloc {w W : World} {a0 : Option Addr} {m0 c0 : Nat} {v : Value} {p : Nat} {out : List Int} (h : ApSt w W a0 m0 c0 v p out) (o : Obj) : ApSt w (W.alloc o) a0 m0 c0 v p out :=
  h.turn (World.grownBy_alloc W o none) (fun r e => by cases e)
theorem ApSt.drew {w W : World} {a0 : Option Addr} {m0 c0 : Nat} {v : Value} {p : Nat} {out : List Int} (h : ApSt w W a0 m0 c0 v p out) : ApSt w W.drew a0 m0 c0 v p out :=
  ⟨h.base, h.r1, h.r2, h.res, h.pos, h.own, h.bel.drew, h.sz⟩
theorem boxed_other {W : World} {B B' : Nat} {t : TypeId} {v : Value} (h : Boxed W B t v) (hne : B' ≠ B) (u : Value) : Boxed (W.setCell ⟨B', 0, none⟩ u) B t v := (Below.heap_setCell W _ _ _ (fun e => hne e.symm)).trans h
theorem ApSt.append {w W w1 : World} {a0 : Option Addr} {m0 c0 : Nat} {v v1 : Value} {p : Nat} {out out1 : List Int} (h : ApSt w W a0 m0 c0 v p out) (hg : W.grownBy w1 v.ownBlock) (ho : Own w1 (w.heap.size + 6) v1 out1.length out1) :
    ApSt w (w1.setCell ⟨w.heap.size + 1 + 1 + 1, 0, none⟩ v1) a0 m0 c0 v1 p out1 ∧ Boxed w1 (w.heap.size + 1 + 1 + 1) 22 v ∧ Boxed w1 w.heap.size 22 (.slice a0 m0 c0) ∧ Boxed w1 (w.heap.size + 1 + 1 + 1 + 1) 3 (.int .i64 (p : Int)) ∧
    KeepsOthers W (w1.setCell ⟨w.heap.size + 1 + 1 + 1, 0, none⟩ v1) ∧ (∀ Bx cs, w.heap.size + 6 ≤ Bx → W.heap[Bx]? = some (.cells cs 48 (0, 0)) → w1.heap[Bx]? = some (.cells cs 48 (0, 0)) ∧ (w1.setCell ⟨w.heap.size + 1 + 1 + 1, 0, none⟩ v1).heap[Bx]? = some (.cells cs 48 (0, 0))) ∧
    Below w.heap.size W (w1.setCell ⟨w.heap.size + 1 + 1 + 1, 0, none⟩ v1) := by
  have ne : ∀ g cs t fz, W.heap[g]? = some (.cells cs t fz) → 5 ≠ t → some g ≠ v.ownBlock := fun g cs t fz hh ht e => h.own.blk_ne hh ht e.symm
  have b0 := h.base.kept hg (ne _ _ _ _ h.base (by decide))
  have b1 := h.r1.kept hg (ne _ _ _ _ h.r1 (by decide))
  have b2 := h.r2.kept hg (ne _ _ _ _ h.r2 (by decide))
  have b3 := h.res.kept hg (ne _ _ _ _ h.res (by decide))
  have b4 := h.pos.kept hg (ne _ _ _ _ h.pos (by decide))
  have hk : ∀ k, v.ownBlock = some k → w.heap.size ≤ k := fun k e => by
    rcases h.own.2 with ⟨rfl, _⟩ | ⟨g, cap, cur, rfl, hb, _, _⟩
    · simp [Value.ownBlock] at e
    · obtain rfl : g = k := by simpa [Value.ownBlock] using e
      omega
  have hbel : Below w.heap.size W w1 := (Below.refl _ W).grown hg (Nat.le_trans (by omega) h.sz) hk
  refine ⟨⟨boxed_other b0 (by omega) _, boxed_other b1 (by omega) _, boxed_other b2 (by omega) _, b3.set v1, boxed_other b4 (by omega) _, ?_, (h.bel.trans hbel).setCell (by show w.heap.size ≤ w.heap.size + 1 + 1 + 1; omega) _, ?_⟩, b3, b0, b4, ?_, ?_, hbel.setCell (by show w.heap.size ≤ w.heap.size + 1 + 1 + 1; omega) _⟩
  · refine World.ownsRow.kept (show w1.ownsRow _ 5 1 v1 _ _ from ho) (grownBy_setCell' w1 _ v1) (.inr (fun e => ho.blk_ne b3 (by decide) e))
  · have := hg.size; have h2 := h.sz; show _ ≤ (w1.setCell _ _).heap.size; rw [World.size_setCell]; omega
  · refine (KeepsOthers.of_grownBy hg fun j o ej hj => ?_).trans (KeepsOthers.setCell _ _ _)
    rcases h.own.2 with ⟨rfl, _⟩ | ⟨g, cap, cur, rfl, _, hgb, _⟩
    · simp [Value.ownBlock] at ej
    · obtain rfl : g = j := by simpa [Value.ownBlock] using ej
      rw [hgb] at hj; cases hj; rfl
  · intro Bx cs hBx hh
    have h1 := (hg.block Bx (Array.getElem?_eq_some_iff.1 hh).1 (ne _ _ _ _ hh (by decide))).trans hh
    exact ⟨h1, (Below.heap_setCell w1 _ _ _ (by show Bx ≠ w.heap.size + 1 + 1 + 1; omega)).trans h1⟩
theorem ApSt.setPos {w W : World} {a0 : Option Addr} {m0 c0 : Nat} {v : Value} {p : Nat} {out : List Int} (h : ApSt w W a0 m0 c0 v p out) (q : Nat) : ApSt w (W.setCell ⟨w.heap.size + 1 + 1 + 1 + 1, 0, none⟩ (.int .i64 (q : Int))) a0 m0 c0 v q out :=
  ⟨boxed_other h.base (by omega) _, boxed_other h.r1 (by omega) _, boxed_other h.r2 (by omega) _, boxed_other h.res (by omega) _, h.pos.set _,
    World.ownsRow.kept (show W.ownsRow _ 5 1 v _ _ from h.own) (grownBy_setCell' W _ _) (.inr (fun e => h.own.blk_ne h.pos (by decide) e)), h.bel.setCell (by show w.heap.size ≤ w.heap.size + 1 + 1 + 1 + 1; omega) _, by show _ ≤ (W.setCell _ _).heap.size; rw [World.size_setCell]; exact h.sz⟩
/-- What lies there where an error has been met. -/
structure ApEnd (w W : World) (e : Nat) : Prop where
  r1 : Boxed W (w.heap.size + 1) 22 (.slice none 0 0)
  r2 : Boxed W (w.heap.size + 1 + 1) 28 (.int .i64 (e : Int))
  bel : Below w.heap.size w W
theorem ApEnd.turn {w W W' : World} {e : Nat} (h : ApEnd w W e) {row : Option Nat} (hg : W.grownBy W' row) (hr : ∀ r, row = some r → w.heap.size ≤ r ∧ ∃ o : Obj, W.heap[r]? = some o ∧ o.isCells = false) : ApEnd w W' e :=
  have hr' := fun r e => (hr r e).2
  ⟨boxed_turn h.r1 hg hr', boxed_turn h.r2 hg hr', h.bel.grown hg h.bel.size (fun k e => (hr k e).1)⟩
def ApFail (base : List Int) (l : List (Option Hk)) (w W : World) : Prop := ∃ e, e ≠ 0 ∧ (∀ t, applyGo base (l ++ t) 0 [] = (e, [])) ∧ ApEnd w W e
theorem ApSt.fail {w W : World} {a0 : Option Addr} {m0 c0 : Nat} {v : Value} {p : Nat} {out : List Int} (h : ApSt w W a0 m0 c0 v p out) (e : Nat) :
    ApEnd w ((W.setCell ⟨w.heap.size + 1, 0, none⟩ (.slice none 0 0)).setCell ⟨w.heap.size + 1 + 1, 0, none⟩ (.int .i64 (e : Int))) e :=
  ⟨boxed_other (h.r1.set _) (by omega) _, (boxed_other h.r2 (by omega) _).set _, (h.bel.setCell (by show w.heap.size ≤ w.heap.size + 1; omega) _).setCell (by show w.heap.size ≤ w.heap.size + 1 + 1; omega) _⟩
theorem hunksF_length : ∀ (f : Nat) (xs : List Int), (hunksF f xs).length ≤ xs.length
  | 0, _ => by simp [hunksF]
  | f + 1, xs => by
    rw [hunksF]
    split
    · simp
    · split
      · simp; omega
      · split
        · simp; omega
        · have := hunksF_length f (xs.drop (12 + num (sub xs 8 4)))
          rw [List.length_drop] at this
          rw [List.length_cons]
          omega
theorem hid {p : Prop} (h : p) : Hid p := h
def mkRaw {w : World} {lim : Nat} (r : Raw) (h : RawOk w lim r) : Raws w lim := ⟨r, h⟩
theorem applyGo_ok (base : List Int) (pre : List (Option Hk)) (p : Nat) (out : List Int) (hgo : ∀ t, applyGo base (pre ++ t) 0 [] = applyGo base t p out) (h : Hk) (h1 : p ≤ h.fr) (h2 : h.fr ≤ h.to) (h3 : h.to ≤ base.length) (t : List (Option Hk)) :
    applyGo base ((pre ++ [some h]) ++ t) 0 [] = applyGo base t h.to (out ++ sub base p (h.fr - p) ++ h.ys) := by
  rw [List.append_assoc, hgo]
  show applyGo base (some h :: t) p out = _
  rw [applyGo, if_neg (by omega)]
theorem applyGo_bad (base : List Int) (pre : List (Option Hk)) (p : Nat) (out : List Int) (hgo : ∀ t, applyGo base (pre ++ t) 0 [] = applyGo base t p out) (h : Hk) (hb : h.fr < p ∨ h.to < h.fr ∨ base.length < h.to) (t : List (Option Hk)) :
    applyGo base ((pre ++ [some h]) ++ t) 0 [] = (4, []) := by
  rw [List.append_assoc, hgo]
  show applyGo base (some h :: t) p out = _
  rw [applyGo, if_pos hb]
theorem applyGo_end (base : List Int) (pre : List (Option Hk)) (p : Nat) (out : List Int) (hgo : ∀ t, applyGo base (pre ++ t) 0 [] = applyGo base t p out) (t : List (Option Hk)) :
    applyGo base ((pre ++ [none]) ++ t) 0 [] = (3, []) := by
  rw [List.append_assoc, hgo]
  rfl
set_option maxRecDepth 100000 in
set_option maxHeartbeats 4000000 in
theorem apply_any (a0 : Option Addr) (m0 c0 : Nat) (base : List Int) (a1 : Option Addr) (m1 c1 : Nat) (xs : List Int) (most : Int) (w : World) (h0 : m0 ≤ c0) (hn0 : a0 = none → c0 = 0) (hl0 : m0 ≤ 1000000) (HB : Bytes w a0 m0 base)
    (h1 : m1 ≤ c1) (hn1 : a1 = none → c1 = 0) (hl1 : m1 ≤ 1000000) (HP : Bytes w a1 m1 xs) :
    Calls Try.prog 10 #[.slice a0 m0 c0, .slice a1 m1 c1, .int .i64 most] w fun e w' => (∃ v, e = .returned (.tuple #[v, .int .i64 ((applyOf base xs most).1 : Int)]) ∧ Own w' w.heap.size v (applyOf base xs most).2.length (applyOf base xs most).2) ∧ Below w.heap.size w w' := by
  refine (callsIn_wide (n := 3)).1 ?_
  refine callsIn_of_wp_marks Try.func10 rfl trivial ?_ rfl
  simp only [Try.ntmps10, List.size_toArray, List.length_cons, List.length_nil, Nat.reduceAdd, Nat.reduceSub, Array.replicate_succ, Array.replicate_zero, List.push_toArray, List.append_toArray, List.nil_append, List.cons_append]
  gi_wp2_with (refine ⟨trivial, ?_⟩; gi_at_call 17; refine (callsIn_wide.2 (hunks_any _ _ _ _)).mono ?_; rintro e w' ⟨rfl, rfl⟩)
  obtain ⟨W1, hW1⟩ : ∃ W1, ((((((w.alloc (.cells #[.slice a0 m0 c0] 22)).alloc (.cells #[.slice none 0 0] 22)).alloc (.cells #[.int .i64 0] 28)).alloc (.cells #[.slice none 0 0] 22)).alloc (.cells #[.int .i64 0] 3)).alloc (.cells #[.slice a1 m1 c1] 22)) = W1 := ⟨_, rfl⟩
  have hsz1 : W1.heap.size = w.heap.size + 6 := by rw [← hW1]; simp
  have hst1 : ApSt w W1 a0 m0 c0 (.slice none 0 0) 0 [] := by
    have e1 := World.size_alloc w (.cells #[.slice a0 m0 c0] 22)
    have q0 := Boxed.new w 22 (.slice a0 m0 c0)
    have q1 := Boxed.new (w.alloc (.cells #[.slice a0 m0 c0] 22)) 22 (.slice none 0 0)
    have q2 := Boxed.new ((w.alloc (.cells #[.slice a0 m0 c0] 22)).alloc (.cells #[.slice none 0 0] 22)) 28 (.int .i64 0)
    have q3 := Boxed.new (((w.alloc (.cells #[.slice a0 m0 c0] 22)).alloc (.cells #[.slice none 0 0] 22)).alloc (.cells #[.int .i64 0] 28)) 22 (.slice none 0 0)
    have q4 := Boxed.new ((((w.alloc (.cells #[.slice a0 m0 c0] 22)).alloc (.cells #[.slice none 0 0] 22)).alloc (.cells #[.int .i64 0] 28)).alloc (.cells #[.slice none 0 0] 22)) 3 (.int .i64 0)
    simp only [World.size_alloc] at q1 q2 q3 q4
    rw [← hW1]
    exact ⟨((((q0.alloc _).alloc _).alloc _).alloc _).alloc _, (((q1.alloc _).alloc _).alloc _).alloc _, ((q2.alloc _).alloc _).alloc _, (q3.alloc _).alloc _, q4.alloc _, ⟨rfl, .inl ⟨rfl, rfl⟩⟩,
      ((((((Below.refl _ w).alloc (Nat.le_refl _) _).alloc (by simp) _).alloc (by simp; omega) _).alloc (by simp; omega) _).alloc (by simp; omega) _).alloc (by simp; omega) _, by simp⟩
  have hp1 : W1.cell? ⟨w.heap.size + 1 + 1 + 1 + 1 + 1, 0, none⟩ = some (.slice a1 m1 c1) := by
    have q5 := Boxed.new (((((w.alloc (.cells #[.slice a0 m0 c0] 22)).alloc (.cells #[.slice none 0 0] 22)).alloc (.cells #[.int .i64 0] 28)).alloc (.cells #[.slice none 0 0] 22)).alloc (.cells #[.int .i64 0] 3)) 22 (.slice a1 m1 c1)
    simp only [World.size_alloc] at q5
    rw [← hW1]
    exact q5.cell
  rw [hW1]
  clear hW1
  refine wpIn_rangeFunc_ownH rfl (by omega) (gf := 23) (lb := #[.pointer (some ⟨w.heap.size + 1 + 1 + 1 + 1 + 1, 0, none⟩)]) rfl trivial (enters_of Try.func23 (by kernel_rfl) rfl)
    (hunks_stops (3 - 1) (by omega) (w.heap.size + 1 + 1 + 1 + 1 + 1) a1 m1 c1 xs w W1 h1 hn1 hl1 HP hst1.bel (by omega) hp1) belowK_t (belowK_b (by omega)) (Below.refl _ _) (fun _ => rfl)
    (fun pre W => ∃ v p out, ApSt w W a0 m0 c0 v p out ∧ (∀ t, applyGo base (hks pre ++ t) 0 [] = applyGo base t p out) ∧ p ≤ m0 ∧ out.length ≤ pre.length * 2000000)
    (fun c pre W => c = .ret ∧ ApFail base (hks pre) w W)
    (fun s A B row ⟨v, p, out, h, hh⟩ hg hr => ⟨v, p, out, h.turn hg (fun r e => ⟨Nat.le_trans (by omega) (hr r e).1, (hr r e).2⟩), hh⟩)
    (fun c s A B row ⟨hc, e, he, hh, h⟩ hg hr => ⟨hc, e, he, hh, h.turn hg (fun r e => ⟨Nat.le_trans (by omega) (hr r e).1, (hr r e).2⟩)⟩)
    ⟨.slice none 0 0, 0, [], hst1, fun t => rfl, by omega, by simp⟩
    (fun x a' W => ∃ Bx, w.heap.size + 6 ≤ Bx ∧ W.heap[Bx]? = some (.cells #[.int .i64 (x.1.fr : Int), .int .i64 (x.1.to : Int), .slice x.1.a x.1.n x.1.c] 48 (0, 0)) ∧ a' = { tmps := #[.slice a0 m0 c0, .slice a1 m1 c1, .int .i64 most, .pointer (some ⟨w.heap.size, 0, none⟩), undef, undef, .pointer (some ⟨w.heap.size + 1, 0, none⟩), .pointer (some ⟨w.heap.size + 1 + 1, 0, none⟩), .pointer (some ⟨w.heap.size + 1 + 1 + 1, 0, none⟩), .pointer (some ⟨w.heap.size + 1 + 1 + 1 + 1, 0, none⟩), .pointer (some ⟨Bx, 0, none⟩), .int .i64 (x.1.e : Int), .slice a1 m1 c1, .func (.func 23) #[] #[.pointer (some ⟨w.heap.size + 1 + 1 + 1 + 1 + 1, 0, none⟩)], .agg #[.int .i64 (x.1.fr : Int), .int .i64 (x.1.to : Int), .slice x.1.a x.1.n x.1.c], .int .i64 (x.1.e : Int), undef, undef, undef, undef, undef, undef, undef, undef, undef, undef, undef, undef, undef, undef, undef, undef, undef, undef, undef, undef, undef, undef, undef, undef, undef, undef, undef, undef, undef, undef, undef, undef, undef, undef, undef, undef, undef, undef, undef, undef, undef, undef, undef, undef], defers := [] })
    (fun x a' s A B row ⟨Bx, hBx, hh, e⟩ hg hr => ⟨Bx, hBx, row_turn hh hg (fun r e => (hr r e).2), e⟩) ?assign ?body ?done ?stop
  case assign =>
    rintro l pre x W K ⟨v, p, out, st, hh⟩ hK
    dsimp only [rawVals]
    gi_wp2
    exact hK _ _ ((KeepsOthers.alloc _ _).from _) ((Below.refl _ W).alloc st.bel.size _) ⟨v, p, out, st.alloc _, hh⟩ ⟨W.heap.size, st.sz, heap_alloc_new W _, rfl⟩
  case body =>
    rintro l pre ⟨⟨fr, to, ax, nx, cx, ys, e⟩, hok⟩ a' W hl ⟨r, hr⟩ ⟨v, p, out, st, hgo, hp, hout⟩ ⟨Bx, hBx, bX, rfl⟩ hlt
    dsimp only at bX
    dsimp only
    have hbd : out.length ≤ 2000002000000 := by have := HP.1; omega
    have HOUT : Hid (out.length ≤ pre.length * 2000000) := hout
    clear hout
    have ST : Hid (ApSt w W a0 m0 c0 v p out) := st
    have HGO : Hid (∀ t, applyGo base (hks pre ++ t) 0 [] = applyGo base t p out) := hgo
    have HBX : Hid (W.heap[Bx]? = some (.cells #[.int .i64 (fr : Int), .int .i64 (to : Int), .slice ax nx cx] 48 (0, 0))) := bX
    have HPB : Hid (base.length = m0) := HB.1
    have HHB : Hid (Bytes w a0 m0 base) := HB
    have HN0 : Hid (a0 = none → c0 = 0) := hn0
    have k0 := st.base.cell
    have k1 := st.r1.cell
    have k2 := st.r2.cell
    have k4 := st.pos.cell
    have f1 := st.r1.frozen
    have f2 := st.r2.frozen
    have d0 : W.cell? ⟨Bx, 0, none⟩ = some (.int .i64 (fr : Int)) := by simp [World.cell?, bX]
    have d1 : W.cell? ⟨Bx, 1, none⟩ = some (.int .i64 (to : Int)) := by simp [World.cell?, bX]
    have hsm : ∀ y, (hks pre ++ [y]) = hks pre ++ [y] := fun _ => rfl
    rcases hok with he | ⟨he, hfr, hto, hnx, hncx, hnilx, hbx⟩
    · have he' : e = 3 := he
      subst he'
      clear st bX hgo HB hn0 hr
      gi_wp2
      exact ⟨((KeepsOthers.setCell _ _ _).trans (KeepsOthers.setCell _ _ _)).from _, rfl, 3, by omega, fun t => by
        have := applyGo_end base (hks pre) p out HGO.out t
        unfold hks at this ⊢
        rw [List.map_append]
        exact this, ST.out.fail 3⟩
    · have he' : e = 0 := he
      subst he'
      have HMEM : RawOk w m1 ⟨fr, to, ax, nx, cx, ys, 0⟩ := .inr ⟨he, hfr, hto, hnx, hncx, hnilx, hbx⟩
      have HFAIL : Hid (∀ hb : fr < p ∨ to < fr ∨ base.length < to, ∀ t, applyGo base (hks (pre ++ [mkRaw _ HMEM]) ++ t) 0 [] = (4, [])) := fun hb t => by
        have := applyGo_bad base (hks pre) p out HGO.out ⟨fr, to, ys⟩ hb t
        unfold hks at this ⊢
        rw [List.map_append]
        exact this
      have HOK : Hid (∀ (q1 : p ≤ fr) (q2 : fr ≤ to) (q3 : to ≤ base.length), ∀ t, applyGo base (hks (pre ++ [mkRaw _ HMEM]) ++ t) 0 [] = applyGo base t to (out ++ sub base p (fr - p) ++ ys)) := fun q1 q2 q3 t => by
        have := applyGo_ok base (hks pre) p out HGO.out ⟨fr, to, ys⟩ q1 q2 q3 t
        unfold hks at this ⊢
        rw [List.map_append]
        exact this
      have HBY : Hid (Bytes w ax nx ys) := hbx
      have hnx' : nx ≤ m1 := hnx
      have hncx' : nx ≤ cx := hncx
      have HNX : Hid (ax = none → cx = 0) := hnilx
      clear st bX hgo HB hn0 hr
      by_cases b1 : fr < p
      · have i1 : (fr : Int) < (p : Int) := by omega
        gi_wp2
        exact ⟨((KeepsOthers.setCell _ _ _).trans (KeepsOthers.setCell _ _ _)).from _, rfl, 4, by omega, HFAIL.out (by omega), ST.out.fail 4⟩
      · have i1 : ¬ (fr : Int) < (p : Int) := by omega
        by_cases b2 : to < fr
        · have i2 : (to : Int) < (fr : Int) := by omega
          gi_wp2
          exact ⟨((KeepsOthers.setCell _ _ _).trans (KeepsOthers.setCell _ _ _)).from _, rfl, 4, by omega, HFAIL.out (by omega), ST.out.fail 4⟩
        · have i2 : ¬ (to : Int) < (fr : Int) := by omega
          by_cases b3 : m0 < to
          · have i3 : (m0 : Int) < (to : Int) := by omega
            gi_wp2
            exact ⟨((KeepsOthers.setCell _ _ _).trans (KeepsOthers.setCell _ _ _)).from _, rfl, 4, by omega, HFAIL.out (by rw [HPB.out]; omega), ST.out.fail 4⟩
          · have i3 : ¬ (m0 : Int) < (to : Int) := by omega
            gi_wp2
            have HSUB : Hid (Bytes w (subA a0 c0 p) (fr - p) (sub base p (fr - p))) := HHB.out.part c0 p fr (by omega) (by omega) h0
            have HSN : Hid (subA a0 c0 p = none → c0 - p = 0) := subA_nil HN0.out
            have s1 : ∀ W, (Instr.sliceAt 22 (.slice a0 m0 c0) (some (.int .i64 (p : Int))) (some (.int .i64 (fr : Int))) none).run Try.prog W = .ok (.slice (subA a0 c0 p) (fr - p) (c0 - p)) W := fun W => slice_sub a0 m0 c0 p fr (by omega) (by omega) W
            refine region_in_round (fun W' => W'.cell? ⟨w.heap.size, 0, none⟩ = some (.slice a0 m0 c0) ∧ W'.cell? ⟨w.heap.size + 1 + 1 + 1 + 1, 0, none⟩ = some (.int .i64 (p : Int)) ∧ W'.cell? ⟨Bx, 0, none⟩ = some (.int .i64 (fr : Int))) (by kernel_rfl) (by kernel_rfl) ⟨k0, k4, d0⟩ (fun hS => ?_)
            refine wpAnyH_take (i := 1) (v := .slice a0 m0 c0) rfl (by kernel_rfl) (by kernel_rfl) (by kernel_rfl) (fun _ _ _ h => by cases h.1) (.inl ⟨by rfl, fun W' hS' => by obtain ⟨z1, z2, z3⟩ := hS'; go_simp⟩) hS ?_
            simp only [Act.put]
            refine wpAnyH_take (i := 2) (v := .int .i64 (p : Int)) rfl (by kernel_rfl) (by kernel_rfl) (by kernel_rfl) (fun _ _ _ h => by cases h.1) (.inl ⟨by rfl, fun W' hS' => by obtain ⟨z1, z2, z3⟩ := hS'; go_simp⟩) hS ?_
            simp only [Act.put]
            refine wpAnyH_take (i := 3) (v := .pointer (some ⟨Bx, 0, none⟩)) rfl (by kernel_rfl) (by kernel_rfl) (by kernel_rfl) (fun _ _ _ h => by cases h.1) (.inl ⟨by rfl, fun W' hS' => by obtain ⟨z1, z2, z3⟩ := hS'; go_simp⟩) hS ?_
            simp only [Act.put]
            refine wpAnyH_take (i := 4) (v := .int .i64 (fr : Int)) rfl (by kernel_rfl) (by kernel_rfl) (by kernel_rfl) (fun _ _ _ h => by cases h.1) (.inl ⟨by rfl, fun W' hS' => by obtain ⟨z1, z2, z3⟩ := hS'; go_simp⟩) hS ?_
            simp only [Act.put]
            refine wpAnyH_take (i := 5) (v := .slice (subA a0 c0 p) (fr - p) (c0 - p)) rfl (by kernel_rfl) (by kernel_rfl) (by kernel_rfl) (fun _ _ _ h => by cases h.1) (.inl ⟨by rfl, fun W' hS' => by obtain ⟨z1, z2, z3⟩ := hS'; go_simp⟩) hS ?_
            simp only [Act.put]
            refine wpAnyH_ready (rs := [0]) (by kernel_rfl) (by simp) (AllReadyH.cons rfl (fun K hK => ?_) AllReadyH.nil)
            rw [if_pos (by rfl)]
            have k3 := ST.out.res.cell
            go_simp
            refine hK _ _ hS (fun _ => ?_)
            clear hK K
            refine wpAnyH_ready (rs := [6]) (by kernel_rfl) (by simp) (AllReadyH.cons rfl (fun K hK => ?_) AllReadyH.nil)
            rw [if_pos (by rfl)]
            refine wp_append_bytes (.tmp 37) (.tmp 42) rfl (w.heap.size + 6) v out.length out rfl ST.out.own (subA a0 c0 p) (fr - p) (c0 - p) (sub base p (fr - p)) rfl (HSUB.out.below ST.out.bel.drew) HSN.out (by omega) ST.out.sz ?_
            intro v1 w1 hown1 hg1
            have hown1' := Own.cast hown1 rfl
            obtain ⟨st1, z3, z0, z4, ko1, kb1, be1⟩ := ST.out.drew.append hg1 hown1'
            have zb := (kb1 Bx _ hBx HBX.out).1
            have hS1 : w1.cell? ⟨w.heap.size, 0, none⟩ = some (.slice a0 m0 c0) ∧ w1.cell? ⟨w.heap.size + 1 + 1 + 1 + 1, 0, none⟩ = some (.int .i64 (p : Int)) ∧ w1.cell? ⟨Bx, 0, none⟩ = some (.int .i64 (fr : Int)) := ⟨z0.cell, z4.cell, by simp [World.cell?, zb]⟩
            refine hK _ _ hS1 (fun _ => ?_)
            clear hK K
            have ST1 : Hid (ApSt w (w1.setCell ⟨w.heap.size + 1 + 1 + 1, 0, none⟩ v1) a0 m0 c0 v1 p (out ++ sub base p (fr - p))) := st1
            have KO1 : Hid (KeepsOthers W (w1.setCell ⟨w.heap.size + 1 + 1 + 1, 0, none⟩ v1)) := (KeepsOthers.drew W).trans ko1
            have KB1 : Hid ((w1.setCell ⟨w.heap.size + 1 + 1 + 1, 0, none⟩ v1).heap[Bx]? = some (.cells #[.int .i64 (fr : Int), .int .i64 (to : Int), .slice ax nx cx] 48 (0, 0))) := (kb1 Bx _ hBx HBX.out).2
            have BE1 : Hid (Below w.heap.size W (w1.setCell ⟨w.heap.size + 1 + 1 + 1, 0, none⟩ v1)) := (Below.refl _ W).drew.trans be1
            obtain ⟨a3, c3, e3, -, -, -⟩ := hown1.shape
            subst e3
            have k3' := z3.cell
            have f3' := z3.frozen
            simp only [Act.put]
            refine wpAnyH_ready (rs := [7]) (by kernel_rfl) (by simp) (AllReadyH.cons rfl (fun K hK => ?_) AllReadyH.nil)
            rw [if_pos (by rfl)]
            go_simp
            refine hK _ _ ⟨ST1.out.base.cell, ST1.out.pos.cell, (cell_of_row _ Bx 0 _ _ KB1.out).trans rfl⟩ (fun _ => ?_)
            clear hK K
            refine wpAnyH_done (by kernel_rfl) ⟨rfl, ?_⟩ _
            have HYB : Hid (Bytes (w1.setCell ⟨w.heap.size + 1 + 1 + 1, 0, none⟩ (.slice a3 (out.length + (fr - p)) c3)) ax nx ys) := HBY.out.below ST1.out.bel
            have HL1 : Hid ((out ++ sub base p (fr - p)).length = out.length + (fr - p)) := by show _ = _; rw [List.length_append]; simp [sub]; have := HPB.out; omega
            generalize w1.setCell ⟨w.heap.size + 1 + 1 + 1, 0, none⟩ (.slice a3 (out.length + (fr - p)) c3) = w2 at *
            have j3 := ST1.out.res.cell
            have j2 : w2.cell? ⟨Bx, 2, none⟩ = some (.slice ax nx cx) := (cell_of_row _ Bx 2 _ _ KB1.out).trans rfl
            obtain ⟨o1, ho1⟩ : ∃ o1, out ++ sub base p (fr - p) = o1 := ⟨_, rfl⟩
            have HO1 : Hid (out ++ sub base p (fr - p) = o1) := ho1
            rw [ho1] at ST1 HL1
            clear ho1
            have tok : True := trivial
            gi_wp2_with (
              have _t := tok
              gi_at_builtin
              refine wpListIn_append_bytes rfl _ _ rfl (w.heap.size + 6) _ _ _ rfl ST1.out.own ax nx cx ys rfl HYB.out HNX.out (by rw [HL1.out]; omega) ST1.out.sz ?_
              clear tok
              intro v2 w3 hown2 hg2
              have hown2' := Own.cast hown2 rfl
              obtain ⟨st2, y3, y0, y4, ko2, kb2, be2⟩ := ST1.out.append hg2 hown2'
              have ST2 : Hid (ApSt w (w3.setCell ⟨w.heap.size + 1 + 1 + 1, 0, none⟩ v2) a0 m0 c0 v2 p (o1 ++ ys)) := st2
              have KO2 : Hid (KeepsOthers W (w3.setCell ⟨w.heap.size + 1 + 1 + 1, 0, none⟩ v2)) := KO1.out.trans ko2
              have BE2 : Hid (Below w.heap.size W (w3.setCell ⟨w.heap.size + 1 + 1 + 1, 0, none⟩ v2)) := BE1.out.trans be2
              have KB2 : Hid ((w3.setCell ⟨w.heap.size + 1 + 1 + 1, 0, none⟩ v2).heap[Bx]? = some (.cells #[.int .i64 (fr : Int), .int .i64 (to : Int), .slice ax nx cx] 48 (0, 0))) := (kb2 Bx _ hBx KB1.out).2
              obtain ⟨a4, c4, e4, -, -, -⟩ := hown2.shape
              subst e4
              have y3' := y3.cell
              have y3'' := y3.frozen
              have e1 : (w3.setCell ⟨w.heap.size + 1 + 1 + 1, 0, none⟩ (.slice a4 (o1.length + nx) c4)).cell? ⟨Bx, 1, none⟩ = some (.int .i64 (to : Int)) := (cell_of_row _ Bx 1 _ _ KB2.out).trans rfl
              have e4 := st2.pos.cell
              have e5 := st2.pos.frozen
              clear st2 hown2 hown2' hg2 ko2 kb2 be2 y0 y4 y3)
            refine ⟨?_, ?_, ?_⟩
            · exact (KO2.out.trans (KeepsOthers.setCell _ _ _)).from _
            · exact BE2.out.setCell (by show w.heap.size ≤ w.heap.size + 1 + 1 + 1 + 1; omega) _
            · refine ⟨_, to, o1 ++ ys, ST2.out.setPos to, by rw [← HO1.out]; exact HOK.out (by omega) (by omega) (by rw [HPB.out]; omega), by omega, ?_⟩
              have h1 := HOUT.out
              have h2 := HL1.out
              have h3 := HBY.out.1
              rw [List.length_append, h2, h3, List.length_append]
              show _ ≤ (pre.length + 1) * 2000000
              omega
  case done =>
    rintro D zs W hD hS ⟨v, p, out, st, hgo, hp, hout⟩ hK
    have HPB : Hid (base.length = m0) := HB.1
    have HFIN : Hid (applyGo base (hunksOf xs) 0 [] = (0, out ++ base.drop p)) := by
      have := hgo []
      rw [List.append_nil, hS] at this
      show _ = _
      rw [this]; rfl
    have hbd : out.length ≤ 2000000000000 := by
      have h1 := hunksF_length xs.length xs
      have h2 : zs.length = (hunksOf xs).length := by rw [← hS]; simp [hks]
      have h3 := HP.1
      have h4 : (hunksOf xs).length ≤ xs.length := h1
      omega
    have HSUB : Hid (Bytes w (subA a0 c0 p) (m0 - p) (base.drop p)) := by
      have := HB.part c0 p m0 (by omega) (by omega) h0
      rw [List.take_of_length_le (by simp; have := HB.1; omega)] at this
      exact this
    have HSN : Hid (subA a0 c0 p = none → c0 - p = 0) := subA_nil hn0
    have s1 : ∀ W, (Instr.sliceAt 22 (.slice a0 m0 c0) (some (.int .i64 (p : Int))) none none).run Try.prog W = .ok (.slice (subA a0 c0 p) (m0 - p) (c0 - p)) W := fun W => slice_from a0 m0 c0 p hp h0 W
    have ST : Hid (ApSt w W a0 m0 c0 v p out) := st
    have HKD : Hid (W.heap[D]? = some (.deferred (some []))) := hK
    have HDW : Hid (w.heap.size + 6 ≤ D) := by show _ ≤ _; omega
    have k0 := st.base.cell
    have k4 := st.pos.cell
    clear st hgo hout hK HB hn0 hn1 HP hst1 hp1
    gi_wp2
    refine wpIn_wide.2 ?_
    refine wp_region_noPanic ?_
    refine wp_region_held_drew (S := fun W' => W'.cell? ⟨w.heap.size, 0, none⟩ = some (.slice a0 m0 c0) ∧ W'.cell? ⟨w.heap.size + 1 + 1 + 1 + 1, 0, none⟩ = some (.int .i64 (p : Int))) (by kernel_rfl) ⟨k0, k4⟩ (fun hS => ?_)
    refine wpAnyH_take (i := 1) (v := .slice a0 m0 c0) rfl (by kernel_rfl) (by kernel_rfl) (by kernel_rfl) (fun _ _ _ h => h) (.inl ⟨by rfl, fun W' hS' => by obtain ⟨z1, z2⟩ := hS'; go_simp⟩) hS ?_
    simp only [Act.put]
    refine wpAnyH_take (i := 2) (v := .int .i64 (p : Int)) rfl (by kernel_rfl) (by kernel_rfl) (by kernel_rfl) (fun _ _ _ h => h) (.inl ⟨by rfl, fun W' hS' => by obtain ⟨z1, z2⟩ := hS'; go_simp⟩) hS ?_
    simp only [Act.put]
    refine wpAnyH_take (i := 3) (v := .slice (subA a0 c0 p) (m0 - p) (c0 - p)) rfl (by kernel_rfl) (by kernel_rfl) (by kernel_rfl) (fun _ _ _ h => h) (.inl ⟨by rfl, fun W' hS' => by obtain ⟨z1, z2⟩ := hS'; go_simp⟩) hS ?_
    simp only [Act.put]
    refine wpAnyH_ready (rs := [0]) (by kernel_rfl) (by simp) (AllReadyH.cons rfl (fun K hK => ?_) AllReadyH.nil)
    rw [if_pos (by rfl)]
    have k3 := ST.out.res.cell
    go_simp
    refine hK _ _ hS (fun _ => ?_)
    clear hK K
    refine wpAnyH_ready (rs := [4]) (by kernel_rfl) (by simp) (AllReadyH.cons rfl (fun K hK => ?_) AllReadyH.nil)
    rw [if_pos (by rfl)]
    refine wp_append_bytes (.tmp 50) (.tmp 53) rfl (w.heap.size + 6) v out.length out rfl ST.out.own (subA a0 c0 p) (m0 - p) (c0 - p) (base.drop p) rfl (HSUB.out.below ST.out.bel.drew) HSN.out (by omega) ST.out.sz ?_
    intro v1 w1 hown1 hg1
    have hown1' := Own.cast hown1 rfl
    obtain ⟨st1, z3, z0, z4, ko1, kb1, be1⟩ := ST.out.drew.append hg1 hown1'
    have hS1 : w1.cell? ⟨w.heap.size, 0, none⟩ = some (.slice a0 m0 c0) ∧ w1.cell? ⟨w.heap.size + 1 + 1 + 1 + 1, 0, none⟩ = some (.int .i64 (p : Int)) := ⟨z0.cell, z4.cell⟩
    refine hK _ _ hS1 (fun _ => ?_)
    clear hK K
    have ST1 : Hid (ApSt w (w1.setCell ⟨w.heap.size + 1 + 1 + 1, 0, none⟩ v1) a0 m0 c0 v1 p (out ++ base.drop p)) := st1
    have KO1 : Hid (KeepsOthers W (w1.setCell ⟨w.heap.size + 1 + 1 + 1, 0, none⟩ v1)) := (KeepsOthers.drew W).trans ko1
    obtain ⟨a3, c3, e3, -, -, -⟩ := hown1.shape
    subst e3
    have k3' := z3.cell
    have f3' := z3.frozen
    simp only [Act.put]
    refine wpAnyH_ready (rs := [5]) (by kernel_rfl) (by simp) (AllReadyH.cons rfl (fun K hK => ?_) AllReadyH.nil)
    rw [if_pos (by rfl)]
    go_simp
    refine hK _ _ ⟨ST1.out.base.cell, ST1.out.pos.cell⟩ (fun _ => ?_)
    clear hK K
    refine wpAnyH_done (by kernel_rfl) ?_ _
    refine NoPanic.normal ?_
    have HL1 : Hid ((out ++ base.drop p).length = out.length + (m0 - p)) := by show _ = _; rw [List.length_append]; simp; have := HPB.out; omega
    have HK2 : Hid ((w1.setCell ⟨w.heap.size + 1 + 1 + 1, 0, none⟩ (.slice a3 (out.length + (m0 - p)) c3)).heap[D]? = some (.deferred (some []))) := KO1.out.same D _ HKD.out rfl
    generalize w1.setCell ⟨w.heap.size + 1 + 1 + 1, 0, none⟩ (.slice a3 (out.length + (m0 - p)) c3) = w2 at *
    obtain ⟨N, hN⟩ : ∃ N, out.length + (m0 - p) = N := ⟨_, rfl⟩
    rw [hN] at HL1 ST1 ⊢
    have j3 := ST1.out.res.cell
    have q1 := ST1.out.r1.cell
    have q2 := ST1.out.r2.cell
    have g1 := ST1.out.r1.frozen
    have g2 := ST1.out.r2.frozen
    clear k0 k4 k3 k3' f3' z3 z0 z4 ko1 kb1 be1 st1 hown1 hown1' hg1 hS hS1 s1
    by_cases hm : most < (N : Int)
    · gi_wp2
      have hK3 : ((w2.setCell ⟨w.heap.size + 1, 0, none⟩ (.slice none 0 0)).setCell ⟨w.heap.size + 1 + 1, 0, none⟩ (.int .i64 2)).heap[D]? = some (.deferred (some [])) :=
        (KeepsOthers.setCell _ _ _).same D _ ((KeepsOthers.setCell _ _ _).same D _ HK2.out rfl) rfl
      have hend := (ST1.out.fail 2).turn (grownBy_putObj' _ D (.deferred none)) (fun r e => by cases e; exact ⟨by have := HDW.out; omega, _, hK3, rfl⟩)
      refine ⟨by simp, .inl ⟨_, _, rfl, run_takeDeferred hK3, ?_⟩⟩
      have hc1 := hend.r1.cell
      have hc2 := hend.r2.cell
      have hap : applyOf base xs most = (2, []) := by
        unfold applyOf
        rw [HFIN.out]
        simp only [if_true]
        rw [HL1.out, if_pos hm]
      refine ⟨.tuple #[.slice none 0 0, .int .i64 2], ?_, ⟨_, by rw [hap]; rfl, by rw [hap]; exact ⟨rfl, .inl ⟨rfl, rfl⟩⟩⟩, hend.bel⟩
      have hc2' : (((w2.setCell ⟨w.heap.size + 1, 0, none⟩ (.slice none 0 0)).setCell ⟨w.heap.size + 1 + 1, 0, none⟩ (.int .i64 2)).putObj D (.deferred none)).cell? ⟨w.heap.size + 1 + 1, 0, none⟩ = some (.int .i64 2) := hc2
      have hc1' : (((w2.setCell ⟨w.heap.size + 1, 0, none⟩ (.slice none 0 0)).setCell ⟨w.heap.size + 1 + 1, 0, none⟩ (.int .i64 2)).putObj D (.deferred none)).cell? ⟨w.heap.size + 1, 0, none⟩ = some (.slice none 0 0) := hc1
      clear hc1 hc2 hend
      generalize ((w2.setCell ⟨w.heap.size + 1, 0, none⟩ (.slice none 0 0)).setCell ⟨w.heap.size + 1 + 1, 0, none⟩ (.int .i64 2)).putObj D (.deferred none) = wf at *
      simp [results, Try.f10, go_sem, hc1', hc2']
    · have hm' : ¬ most < (N : Int) := hm
      gi_wp2
      have hK3 : ((w2.setCell ⟨w.heap.size + 1, 0, none⟩ (.slice a3 N c3)).setCell ⟨w.heap.size + 1 + 1, 0, none⟩ (.int .i64 0)).heap[D]? = some (.deferred (some [])) :=
        (KeepsOthers.setCell _ _ _).same D _ ((KeepsOthers.setCell _ _ _).same D _ HK2.out rfl) rfl
      have hrow : ∀ r, some D = some r → w.heap.size ≤ r ∧ ∃ o : Obj, ((w2.setCell ⟨w.heap.size + 1, 0, none⟩ (.slice a3 N c3)).setCell ⟨w.heap.size + 1 + 1, 0, none⟩ (.int .i64 0)).heap[r]? = some o ∧ o.isCells = false := fun r e => by cases e; exact ⟨by have := HDW.out; omega, _, hK3, rfl⟩
      have hg3 := grownBy_putObj' ((w2.setCell ⟨w.heap.size + 1, 0, none⟩ (.slice a3 N c3)).setCell ⟨w.heap.size + 1 + 1, 0, none⟩ (.int .i64 0)) D (.deferred none)
      have b1 : Boxed ((w2.setCell ⟨w.heap.size + 1, 0, none⟩ (.slice a3 N c3)).setCell ⟨w.heap.size + 1 + 1, 0, none⟩ (.int .i64 0)) (w.heap.size + 1) 22 (.slice a3 N c3) := boxed_other (ST1.out.r1.set _) (by omega) _
      have b2 : Boxed ((w2.setCell ⟨w.heap.size + 1, 0, none⟩ (.slice a3 N c3)).setCell ⟨w.heap.size + 1 + 1, 0, none⟩ (.int .i64 0)) (w.heap.size + 1 + 1) 28 (.int .i64 0) := (boxed_other ST1.out.r2 (by omega) _).set _
      have o1 : Own (w2.setCell ⟨w.heap.size + 1, 0, none⟩ (.slice a3 N c3)) (w.heap.size + 6) (.slice a3 N c3) (out ++ base.drop p).length (out ++ base.drop p) := World.ownsRow.kept (show w2.ownsRow _ 5 1 _ _ _ from ST1.out.own) (grownBy_setCell' w2 _ _) (.inr (fun e => ST1.out.own.blk_ne ST1.out.r1 (by decide) e))
      have o2 : Own ((w2.setCell ⟨w.heap.size + 1, 0, none⟩ (.slice a3 N c3)).setCell ⟨w.heap.size + 1 + 1, 0, none⟩ (.int .i64 0)) (w.heap.size + 6) (.slice a3 N c3) (out ++ base.drop p).length (out ++ base.drop p) := World.ownsRow.kept (show (w2.setCell ⟨w.heap.size + 1, 0, none⟩ (.slice a3 N c3)).ownsRow _ 5 1 _ _ _ from o1) (grownBy_setCell' _ _ _) (.inr (fun e => o1.blk_ne (boxed_other ST1.out.r2 (show w.heap.size + 1 ≠ w.heap.size + 1 + 1 by omega) (.slice a3 N c3)) (by decide) e))
      have o3 := (o2.turn hg3 (fun r e => (hrow r e).2)).lower (show w.heap.size ≤ w.heap.size + 6 by omega)
      have bl : Below w.heap.size w ((w2.setCell ⟨w.heap.size + 1, 0, none⟩ (.slice a3 N c3)).setCell ⟨w.heap.size + 1 + 1, 0, none⟩ (.int .i64 0)) := (ST1.out.bel.setCell (by show w.heap.size ≤ w.heap.size + 1; omega) _).setCell (by show w.heap.size ≤ w.heap.size + 1 + 1; omega) _
      have bl3 := bl.grown hg3 bl.size (fun k e => (hrow k e).1)
      refine ⟨by simp, .inl ⟨_, _, rfl, run_takeDeferred hK3, ?_⟩⟩
      have hc1 := (boxed_turn b1 hg3 (fun r e => (hrow r e).2)).cell
      have hc2 := (boxed_turn b2 hg3 (fun r e => (hrow r e).2)).cell
      have hap : applyOf base xs most = (0, out ++ base.drop p) := by
        unfold applyOf
        rw [HFIN.out]
        simp only [if_true]
        rw [HL1.out, if_neg (by omega)]
      refine ⟨.tuple #[.slice a3 N c3, .int .i64 0], ?_, ⟨_, by rw [hap]; rfl, by rw [hap]; exact o3⟩, bl3⟩
      clear o1 o2 o3 bl bl3 b1 b2 hg3 hrow hK3
      generalize ((w2.setCell ⟨w.heap.size + 1, 0, none⟩ (.slice a3 N c3)).setCell ⟨w.heap.size + 1 + 1, 0, none⟩ (.int .i64 0)).putObj D (.deferred none) = wf at *
      simp [results, Try.f10, go_sem, hc1, hc2]
  case stop =>
    rintro D c pre W hD hpre ⟨rfl, e, he, hgo, hend0⟩ hK
    obtain ⟨rest, hrest⟩ := hpre
    gi_wp2
    have hend := hend0.turn (grownBy_putObj' _ D (.deferred none)) (fun r e => by cases e; exact ⟨by omega, _, hK, rfl⟩)
    refine ⟨by simp, .inl ⟨_, _, rfl, run_takeDeferred hK, ?_⟩⟩
    have hc1 := hend.r1.cell
    have hc2 := hend.r2.cell
    have hap : applyOf base xs most = (e, []) := by
      unfold applyOf
      rw [← hrest, hgo rest, if_neg he]
    refine ⟨.tuple #[.slice none 0 0, .int .i64 (e : Int)], ?_, ⟨_, by rw [hap], by rw [hap]; exact ⟨rfl, .inl ⟨rfl, rfl⟩⟩⟩, hend.bel⟩
    clear hend hend0 hK
    generalize W.putObj D (.deferred none) = wf at *
    simp [results, Try.f10, go_sem, hc1, hc2]
end Go.Proofs.Ytbkifjmfmiipnaa
