/- tree.Parse: the walk (a range over a function). -/
import Derived.Test.YtnbkjdakofeeaaaDoorTrIter
namespace Go.Proofs.YtnbkjdakofeeaaaDoor
open Go.RowKit Plain Go.Shelf
set_option linter.unusedVariables false
set_option linter.unusedSimpArgs false
attribute [local go_sem] Oper.semAt_some
theorem entries_stops (n : Nat) (hn : 1 ≤ n) (Bn : Nat) (a : Option Addr) (m cap : Nat) (L : List UInt8) (w w1 : World) (R : RowB w a m cap (numsOf (txt L))) (hlim : m ≤ 100000) (hE : Env w)
    (hb : Below w.heap.size w w1) (hlt : Bn < w1.heap.size) (hc : w1.cell? ⟨Bn, 0, none⟩ = some (.slice a m cap)) :
    SeqStopsK Fence.wide n Tryd.prog 22 #[.pointer (some ⟨Bn, 0, none⟩)] rvals (Below w.heap.size) (fun ys => rnds ys = rndT L) (fun pre => rnds pre <+: rndT L) (L.length + 1) w1 := fun l J Jx W hW hJ hJx hY h0 =>
  entries1_in n hn l Bn w.heap.size a m cap L w R hlim hE rfl J Jx hY (fun pre A B h hg => hJ pre A B none h hg (fun r e => by cases e)) W (hb.trans (hW.mono hb.size)) ((hW.cell (p := ⟨Bn, 0, none⟩) hlt).trans hc) h0
theorem entries_any (a : Option Addr) (m cap : Nat) (w : World) :
    Calls Tryd.prog 14 #[.slice a m cap] w fun e w' => e = .returned (.func (.func 22) #[] #[.pointer (some ⟨w.heap.size, 0, none⟩)]) ∧ w' = w.alloc (.cells #[.slice a m cap] 22) := by
  go_enter Tryd.func14, Tryd.ntmps14
  go_wp2_with fail
  go_ret
  exact ⟨rfl, rfl⟩
theorem boxed_turn {W W' : World} {row : Option Nat} {B : Nat} {t : TypeId} {v : Value} (h : Boxed W B t v) (hg : W.grownBy W' row) (hr : ∀ r, row = some r → ∃ o : Obj, W.heap[r]? = some o ∧ o.isCells = false) : Boxed W' B t v := by
  refine h.kept hg fun e => ?_
  obtain ⟨o, ho, hc⟩ := hr B e.symm
  rw [show W.heap[B]? = _ from h] at ho; cases ho; cases hc
theorem cells_turn {W W' : World} {row : Option Nat} {B : Nat} {cs : Array Value} {t : TypeId} (h : W.heap[B]? = some (.cells cs t (0, 0))) (hg : W.grownBy W' row) (hr : ∀ r, row = some r → ∃ o : Obj, W.heap[r]? = some o ∧ o.isCells = false) : W'.heap[B]? = some (.cells cs t (0, 0)) := by
  refine (hg.block B (Array.getElem?_eq_some_iff.1 h).1 fun e => ?_).trans h
  obtain ⟨o, ho, hc⟩ := hr B e.symm
  rw [h] at ho; cases ho; cases hc
theorem grown_setRow (w : World) (g : Nat) (cs : Array Value) : w.grownBy (w.setRow g cs) (some g) := ⟨rfl, rfl, rfl, by simp [World.setRow], fun k hk hne => setRow_other w g k cs (fun e => hne (by rw [e]))⟩
theorem keeps_setRow {w : World} {g : Nat} {old cs : Array Value} {t : TypeId} {fr : Nat × Nat} (h : w.heap[g]? = some (.cells old t fr)) : KeepsOthers w (w.setRow g cs) :=
  KeepsOthers.of_grownBy (grown_setRow w g cs) (fun j o ej hj => by cases ej; rw [h] at hj; cases hj; rfl)
theorem OwnE.kept {w w' : World} {base : Nat} {v : Value} {xs : List TE} {e : TypeId} {row : Option Nat} (h : OwnE e w base v xs) (hg : w.grownBy w' row) (hr : v.ownBlock = none ∨ v.ownBlock ≠ row) : OwnE e w' base v xs :=
  ⟨World.ownsRow.kept h.1 hg hr, h.2⟩
theorem OwnE.turn {w w' : World} {base : Nat} {v : Value} {xs : List TE} {e : TypeId} (h : OwnE e w base v xs) {row : Option Nat} (hg : w.grownBy w' row) (hr : ∀ r, row = some r → ∃ o : Obj, w.heap[r]? = some o ∧ o.isCells = false) : OwnE e w' base v xs := by
  refine h.kept hg ?_
  rcases h.1.2 with ⟨rfl, _⟩ | ⟨g, cap, cur, rfl, _, hgb, _⟩
  · exact .inl rfl
  · refine .inr fun e' => ?_
    obtain ⟨o, ho, hc⟩ := hr g (by simpa [Value.ownBlock] using e'.symm)
    rw [hgb] at ho; cases ho; cases hc
theorem OwnE.blk_ne {w : World} {base : Nat} {v : Value} {xs : List TE} {e : TypeId} (h : OwnE e w base v xs) {g : Nat} {cs : Array Value} {t : TypeId} {fz : Nat × Nat} (hg : w.heap[g]? = some (.cells cs t fz)) (ht : e ≠ t) : v.ownBlock ≠ some g := by
  rcases h.1.2 with ⟨rfl, _⟩ | ⟨g', cap, cur, rfl, _, hh, _⟩
  · simp [Value.ownBlock]
  · intro he
    have : g' = g := by simpa [Value.ownBlock] using he
    subst this
    rw [hg] at hh
    injection hh with hh
    injection hh with _ h2
    exact ht h2.symm
/-- What lies in memory between two rounds. -/
structure PaSt (w W : World) (v : Value) (xs : List TE) : Prop where
  r1 : Boxed W w.heap.size 23 (.slice none 0 0)
  r2 : Boxed W (w.heap.size + 1) 24 (.int .i64 0)
  res : Boxed W (w.heap.size + 1 + 1) 23 v
  own : OwnE 44 W (w.heap.size + 4) v xs
  bel : Below w.heap.size w W
  sz : w.heap.size + 4 ≤ W.heap.size
theorem PaSt.turn {w W W' : World} {v : Value} {xs : List TE} (h : PaSt w W v xs) {row : Option Nat} (hg : W.grownBy W' row)
    (hr : ∀ r, row = some r → w.heap.size ≤ r ∧ ∃ o : Obj, W.heap[r]? = some o ∧ o.isCells = false) : PaSt w W' v xs :=
  have hr' := fun r e => (hr r e).2
  ⟨boxed_turn h.r1 hg hr', boxed_turn h.r2 hg hr', boxed_turn h.res hg hr', h.own.turn hg hr', h.bel.grown hg h.bel.size (fun k e => (hr k e).1), Nat.le_trans h.sz hg.size⟩
/-- Other blocks alone are written, beyond the fourth. -/
theorem PaSt.beyond {w W W' : World} {v : Value} {xs : List TE} (h : PaSt w W v xs) (hb : Below W.heap.size W W') : PaSt w W' v xs :=
  ⟨(hb.block _ h.r1.lt).trans h.r1, (hb.block _ h.r2.lt).trans h.r2, (hb.block _ h.res.lt).trans h.res, h.own.below hb, h.bel.trans (hb.mono h.bel.size), Nat.le_trans h.sz hb.size⟩
/-- What lies there where an error has been met. -/
structure PaEnd (w W : World) : Prop where
  r1 : Boxed W w.heap.size 23 (.slice none 0 0)
  r2 : Boxed W (w.heap.size + 1) 24 (.int .i64 4)
  bel : Below w.heap.size w W
theorem PaEnd.turn {w W W' : World} (h : PaEnd w W) {row : Option Nat} (hg : W.grownBy W' row) (hr : ∀ r, row = some r → w.heap.size ≤ r ∧ ∃ o : Obj, W.heap[r]? = some o ∧ o.isCells = false) : PaEnd w W' :=
  have hr' := fun r e => (hr r e).2
  ⟨boxed_turn h.r1 hg hr', boxed_turn h.r2 hg hr', h.bel.grown hg h.bel.size (fun k e => (hr k e).1)⟩
theorem boxed_other {W : World} {B B' : Nat} {t : TypeId} {v : Value} (h : Boxed W B t v) (hne : B' ≠ B) (u : Value) : Boxed (W.setCell ⟨B', 0, none⟩ u) B t v := (Below.heap_setCell W _ _ _ (fun e => hne e.symm)).trans h
theorem PaSt.fail {w W : World} {v : Value} {xs : List TE} (h : PaSt w W v xs) : PaEnd w ((W.setCell ⟨w.heap.size, 0, none⟩ (.slice none 0 0)).setCell ⟨w.heap.size + 1, 0, none⟩ (.int .i64 4)) :=
  ⟨boxed_other (h.r1.set _) (by omega) _, (boxed_other h.r2 (by omega) _).set _, (h.bel.setCell (p := ⟨w.heap.size, 0, none⟩) (Nat.le_refl _) _).setCell (p := ⟨w.heap.size + 1, 0, none⟩) (by show w.heap.size ≤ w.heap.size + 1; omega) _⟩
theorem PaSt.append {w W w1 : World} {v v1 : Value} {xs : List TE} {y : TE} (h : PaSt w W v xs) (hg : W.grownBy w1 v.ownBlock) (ho : OwnE 44 w1 (w.heap.size + 4) v1 (xs ++ [y])) :
    PaSt w (w1.setCell ⟨w.heap.size + 1 + 1, 0, none⟩ v1) v1 (xs ++ [y]) ∧ Boxed w1 (w.heap.size + 1 + 1) 23 v ∧ KeepsOthers W (w1.setCell ⟨w.heap.size + 1 + 1, 0, none⟩ v1) ∧ Below w.heap.size W (w1.setCell ⟨w.heap.size + 1 + 1, 0, none⟩ v1) := by
  have ne : ∀ g cs t fz, W.heap[g]? = some (.cells cs t fz) → 44 ≠ t → some g ≠ v.ownBlock := fun g cs t fz hh ht e => h.own.blk_ne hh ht e.symm
  have b1 := h.r1.kept hg (ne _ _ _ _ h.r1 (by decide))
  have b2 := h.r2.kept hg (ne _ _ _ _ h.r2 (by decide))
  have b3 := h.res.kept hg (ne _ _ _ _ h.res (by decide))
  have hk : ∀ k, v.ownBlock = some k → w.heap.size ≤ k := fun k e => Nat.le_trans (by omega) (h.own.lt e).1
  have hbel : Below w.heap.size W w1 := (Below.refl _ W).grown hg (Nat.le_trans (by omega) h.sz) hk
  refine ⟨⟨boxed_other b1 (by omega) _, boxed_other b2 (by omega) _, b3.set v1, ?_, (h.bel.trans hbel).setCell (p := ⟨w.heap.size + 1 + 1, 0, none⟩) (by show w.heap.size ≤ w.heap.size + 1 + 1; omega) _, ?_⟩, b3, ?_, hbel.setCell (p := ⟨w.heap.size + 1 + 1, 0, none⟩) (by show w.heap.size ≤ w.heap.size + 1 + 1; omega) _⟩
  · exact ho.kept (grownBy_setCell' w1 _ v1) (.inr (fun e => ho.blk_ne b3 (by decide) e))
  · have := hg.size; have h2 := h.sz; show _ ≤ (w1.setCell _ _).heap.size; rw [World.size_setCell]; omega
  · refine (KeepsOthers.of_grownBy hg fun j o ej hj => ?_).trans (KeepsOthers.setCell _ _ _)
    rcases h.own.1.2 with ⟨rfl, _⟩ | ⟨g, cap, cur, rfl, _, hgb, _⟩
    · simp [Value.ownBlock] at ej
    · obtain rfl : g = j := by simpa [Value.ownBlock] using ej
      rw [hgb] at hj; cases hj; rfl
theorem wpListIn_slice {F : Fence} {nF : Nat} {P : Program} {w : World} {ops : Array Oper} {rest : List Oper} {o : Oper} {a : Act} {Q : Exit → Act → World → Prop} (hgd : o.guard = none) (ty : TypeId) (len : Nat) (ps : Array (Nat × Operand)) (ho : o.op = .buildSlice ty len ps)
    (qs : Array (Nat × Value)) (hq : (ps.map fun (i, x) => (i, a.eval x)) = qs) (v : Value) (w' : World) (hr : (Instr.buildSlice ty len qs).run P w = .ok v w') (h : wpListIn F nF P ops Q rest (a.put o.dst v) w') : wpListIn F nF P ops Q (o :: rest) a w := by
  refine wpListIn_plain hgd fun K hK => ?_
  unfold Oper.wpIn
  refine ⟨by simp [Oper.about, ho, resolve, Target.leads, Sem.run_pure], ?_⟩
  rw [Oper.semAt_plain F _ _ (by rw [ho]; intro c hc'; cases hc')]
  unfold execOp
  simp only [ho, Sem.run_bind, hq, hr, Result.andThen_ok]
  exact hK _ _ h
theorem wp_append_ent {w : World} {o : Oper} {ac : Act} {K : Act → World → Prop} {Q : Exit → Act → World → Prop} (hgd : o.guard = none) (s x : Operand)
    (ho : o.op = .call { callee := .builtin .append, args := #[s, x], argTypes := #[23, 23] })
    (base : Nat) (v : Value) (xs : List TE) (n : Nat) (hn : xs.length = n) (hs : ac.eval s = v) (hown : OwnE 44 w base v xs) (g0 : Nat) (y : TE) (hy20 : y.n.length = 20) (hx : ac.eval x = .slice (some ⟨g0, 0, none⟩) 1 1) (hy : w.rangeAt g0 0 (entL y))
    (hsum : n + 1 ≤ 1000001) (hbase : base ≤ w.heap.size)
    (h : ∀ g c w', OwnE 44 w' base (.slice (some ⟨g, 0, none⟩) (n + 1) c) (xs ++ [y]) → w.grownBy w' v.ownBlock → (v.ownBlock = some g ∨ g = w.heap.size) → g < w'.heap.size → K (ac.put o.dst (.slice (some ⟨g, 0, none⟩) (n + 1) c)) w') : Oper.wp Tryd.prog o ac w K Q := by
  have h9 := step_append_ent (ops := #[]) (E := False) (Q := Q) hgd s x ho base v xs n hn hs hown g0 y hy20 hx hy hsum hbase h
  have hw : Region.wanted o (yielded #[] ac.tmps) = true := by simp [Region.wanted, hgd]
  rwa [if_pos hw] at h9
/-- What Parse answers. -/
def TrParse (base : Nat) (e : Ending) (w' : World) : Option (List TE) → Prop
  | none => e = .returned (.tuple #[.slice none 0 0, .int .i64 4])
  | some xs => ∃ a c, e = .returned (.tuple #[.slice a xs.length c, .int .i64 0]) ∧ OwnE 44 w' base (.slice a xs.length c) xs
set_option maxRecDepth 100000 in
set_option maxHeartbeats 8000000 in
theorem tparse_any (a : Option Addr) (m cap : Nat) (L : List UInt8) (w : World) (R : RowB w a m cap (numsOf (txt L))) (hlim : m ≤ 100000) (hE : Env w) :
    Calls Tryd.prog 6 #[.slice a m cap] w fun e w' => TrParse w.heap.size e w' (readT L) ∧ Below w.heap.size w w' := by
  have hRL := row_len R
  refine (callsIn_wide (n := 3)).1 ?_
  refine callsIn_of_wp_marks Tryd.func6 rfl trivial ?_ rfl
  simp only [Tryd.ntmps6, List.size_toArray, List.length_cons, List.length_nil, Nat.reduceAdd, Nat.reduceSub, Array.replicate_succ, Array.replicate_zero, List.push_toArray, List.append_toArray, List.nil_append, List.cons_append]
  gi_wp2_with (refine ⟨trivial, ?_⟩; gi_at_call 14; refine (callsIn_wide.2 (entries_any _ _ _ _)).mono ?_; rintro e w' ⟨rfl, rfl⟩)
  obtain ⟨W1, hW1⟩ : ∃ W1, ((((w.alloc (.cells #[.slice none 0 0] 23)).alloc (.cells #[.int .i64 0] 24)).alloc (.cells #[.slice none 0 0] 23)).alloc (.cells #[.slice a m cap] 22)) = W1 := ⟨_, rfl⟩
  have hsz1 : W1.heap.size = w.heap.size + 4 := by rw [← hW1]; simp
  have hst1 : PaSt w W1 (.slice none 0 0) [] := by
    have q0 := Boxed.new w 23 (.slice none 0 0)
    have q1 := Boxed.new (w.alloc (.cells #[.slice none 0 0] 23)) 24 (.int .i64 0)
    have q2 := Boxed.new ((w.alloc (.cells #[.slice none 0 0] 23)).alloc (.cells #[.int .i64 0] 24)) 23 (.slice none 0 0)
    simp only [World.size_alloc] at q1 q2
    rw [← hW1]
    exact ⟨((q0.alloc _).alloc _).alloc _, (q1.alloc _).alloc _, q2.alloc _, OwnE.nil _ _ _,
      ((((Below.refl _ w).alloc (Nat.le_refl _) _).alloc (by simp) _).alloc (by simp; omega) _).alloc (by simp; omega) _, by simp⟩
  have hp1 : W1.cell? ⟨w.heap.size + 1 + 1 + 1, 0, none⟩ = some (.slice a m cap) := by
    have q5 := Boxed.new (((w.alloc (.cells #[.slice none 0 0] 23)).alloc (.cells #[.int .i64 0] 24)).alloc (.cells #[.slice none 0 0] 23)) 22 (.slice a m cap)
    simp only [World.size_alloc] at q5
    rw [← hW1]
    exact q5.cell
  rw [hW1]
  clear hW1
  have hrl := rndF_len L.length L
  refine wpIn_rangeFunc_ownH rfl (by omega) (gf := 22) (lb := #[.pointer (some ⟨w.heap.size + 1 + 1 + 1, 0, none⟩)]) rfl trivial (enters_of Tryd.func22 (by kernel_rfl) rfl)
    (entries_stops (3 - 1) (by omega) (w.heap.size + 1 + 1 + 1) a m cap L w W1 R hlim hE hst1.bel (by omega) hp1) belowK_t (belowK_b (by omega)) (Below.refl _ _) (fun _ => rfl)
    (fun pre W => ∃ v xs, PaSt w W v xs ∧ rnds pre = xs.map (fun x => (x, true)))
    (fun c pre W => c = .ret ∧ PaEnd w W ∧ ∃ p, p ∈ rnds pre ∧ p.2 = false)
    (fun s A B row ⟨v, xs, h, hh⟩ hg hr => ⟨v, xs, h.turn hg (fun r e => ⟨Nat.le_trans (by omega) (hr r e).1, (hr r e).2⟩), hh⟩)
    (fun c s A B row ⟨hc, h, hh⟩ hg hr => ⟨hc, h.turn hg (fun r e => ⟨Nat.le_trans (by omega) (hr r e).1, (hr r e).2⟩), hh⟩)
    ⟨.slice none 0 0, [], hst1, rfl⟩
    (fun x a' W => ∃ Bx, w.heap.size + 4 ≤ Bx ∧ W.heap[Bx]? = some (.cells (entA x.1.1) 44 (0, 0)) ∧ a' = { tmps := #[.slice a m cap, undef, .pointer (some ⟨w.heap.size, 0, none⟩), .pointer (some ⟨w.heap.size + 1, 0, none⟩), .pointer (some ⟨w.heap.size + 1 + 1, 0, none⟩), .pointer (some ⟨Bx, 0, none⟩), .bool x.1.2, .slice a m cap, .func (.func 22) #[] #[.pointer (some ⟨w.heap.size + 1 + 1 + 1, 0, none⟩)], .agg (entA x.1.1), .bool x.1.2, undef, undef, undef, undef, undef, undef, undef, undef, undef, undef], defers := [] })
    (fun x a' s A B row ⟨Bx, hBx, hh, e⟩ hg hr => ⟨Bx, hBx, cells_turn hh hg (fun r e => (hr r e).2), e⟩) ?assign ?body ?done ?stop
  case assign =>
    rintro l pre ⟨⟨X, ok⟩, hx20⟩ W K ⟨v, xs, st, hh⟩ hK
    dsimp only [rvals]
    dsimp only at hx20
    have hze := zero_ent
    have HT : Hid ((W.alloc (.cells (entA noEnt) 44)).heap[W.heap.size]? = some (.cells (entA noEnt) 44 (0, 0))) := heap_alloc_new _ _
    have HI := Lib.hid (ent_info X hx20)
    have HS : Hid ((entA noEnt).size = (entA X).size) := by show _ = _; rw [entA_size _ hx20, entA_size _ zeros20_len]
    have hb2 : Below W.heap.size W ((W.alloc (.cells (entA noEnt) 44)).setRow W.heap.size (entA X)) := below_setRow ((Below.refl _ _).alloc (Nat.le_refl _) _) (Nat.le_refl _) _
    have HST := Lib.hid (st.beyond hb2)
    have HBB := Lib.hid (hb2.mono st.bel.size)
    have HSZ := Lib.hid st.sz
    clear st hb2
    gi_wp2_with (refine wpListIn_store_row rfl 44 _ _ rfl W.heap.size (entA X) rfl rfl 44 (entA noEnt) HT.out HI.out HS.out (entA_one _) ?_)
    exact hK _ _ (((KeepsOthers.alloc W _).trans (keeps_setRow HT.out)).from _) HBB.out ⟨v, xs, HST.out, hh⟩ ⟨W.heap.size, HSZ.out, setRow_heap _ _ _ (entA X) _ _ HT.out, rfl⟩
  case body =>
    rintro l pre ⟨⟨X, ok⟩, hx20⟩ a' W hl ⟨r, hr⟩ ⟨v, xs, st, hh⟩ ⟨Bx, hBx, bX, rfl⟩ hlt
    dsimp only at bX hx20
    dsimp only
    have ST := Lib.hid st
    have HH := Lib.hid hh
    have HBX := Lib.hid bX
    have HX20 := Lib.hid hx20
    have hxl := congrArg List.length hh
    rw [List.length_map] at hxl
    have HXL : Hid (xs.length ≤ 100000) := by
      show _ ≤ _
      unfold rnds at hxl
      rw [List.length_map] at hxl
      omega
    clear hxl
    have hmap : rnds (pre ++ [⟨(X, ok), hx20⟩]) = rnds pre ++ [(X, ok)] := by unfold rnds; rw [List.map_append]; rfl
    have HMAP := Lib.hid hmap
    cases ok
    · have k1 := st.r1.cell
      have f1 := st.r1.frozen
      have k2 := st.r2.cell
      have f2 := st.r2.frozen
      clear st hh bX hr hmap
      gi_wp2
      exact ⟨((KeepsOthers.setCell _ _ _).trans (KeepsOthers.setCell _ _ _)).from _, rfl, ST.out.fail, (X, false), by rw [HMAP.out]; simp, rfl⟩
    · obtain ⟨la, lc, rfl⟩ := st.own.shape
      have HIL := Lib.hid (ent_infoL X hx20)
      have hbl : Below W.heap.size W (W.alloc (.cells (entA X) 44)) := (Below.refl _ _).alloc (Nat.le_refl _) _
      have HS1 := Lib.hid (st.beyond hbl)
      have HLI : Hid ((W.alloc (.cells (entA X) 44)).rangeAt W.heap.size 0 (entL X)) := box_ent W X _
      have HBS := Lib.hid (slice_ent X hx20 W)
      have k4 := st.res.cell
      have HMP : Hid (rnds (pre ++ [⟨(X, true), hx20⟩]) = (xs ++ [X]).map (fun x => (x, true))) := by
        show _ = _
        rw [hmap, hh, List.map_append]; rfl
      have HSZ := Lib.hid st.bel.size
      clear st hh bX hr hmap hbl
      obtain ⟨xl, hxl⟩ : ∃ n, xs.length = n := ⟨_, rfl⟩
      rw [hxl] at ST HS1 HXL k4
      have HXN := Lib.hid hxl
      clear hxl
      gi_wp2_with (first
        | (refine wpListIn_load_ent rfl 44 _ rfl Bx 0 rfl (entL X) _ (row_ent HBX.out) Tryd.underlying44 rfl HIL.out ?_)
        | (refine wpListIn_slice rfl 23 1 #[(0, _)] rfl #[(0, .agg (entA X))] (map_one _ _ _ rfl) _ _ HBS.out ?_)
        | (refine wpListIn_of_wp rfl (by intro c e; cases e) fun K9 hK9 => ?_
           refine wp_append_ent rfl _ _ rfl (w.heap.size + 4) (.slice la xl lc) xs xl HXN.out rfl HS1.out.own W.heap.size X HX20.out rfl HLI.out (by have := HXL.out; omega) HS1.out.sz ?_
           intro g2 gc2 w7 ho7 hg7 hgg hgl
           obtain ⟨st7, b7, ko7, be7⟩ := HS1.out.append hg7 ho7
           have ST7 := Lib.hid st7
           have KO7 := Lib.hid ((KeepsOthers.alloc W (.cells (entA X) 44)).trans ko7)
           have BE7 := Lib.hid (((Below.refl _ W).alloc HSZ.out _).trans be7)
           have k7 := b7.cell
           have f7 := b7.frozen
           clear st7 b7 ko7 be7 ho7 hg7 hgg hgl
           refine hK9 _ _ ?_))
      exact ⟨KO7.out.from _, BE7.out, _, _, ST7.out, HMP.out⟩
  case done =>
    rintro D zs W hD hS ⟨v, xs, st, hh⟩ hK
    obtain ⟨la, lc, rfl⟩ := st.own.shape
    have hen : entsT L = some xs := rnd_some L.length L (Nat.le_refl _) (by rw [← hh, hS]; rfl)
    obtain ⟨he1, he2, he3⟩ := ents_back L.length L (Nat.le_refl _) hen
    have HRT := tright_any la lc xs W (st.own.fs.1) (by omega) (fun x hx => by have := he3 x hx; omega)
    have HRD : Hid (readT L = if rightT xs = true then some xs else none) := by show _ = _; unfold readT; rw [hen]
    obtain ⟨xl, hxl⟩ : ∃ n, xs.length = n := ⟨_, rfl⟩
    have hst := st
    rw [hxl] at HRT hst
    have HXN := Lib.hid hxl
    have HRT := Lib.hid HRT
    have k4 := hst.res.cell
    have HKD : Hid (W.heap[D]? = some (.deferred (some []))) := hK
    have HST := Lib.hid hst
    have HDW : Hid (w.heap.size + 4 ≤ D) := by show _ ≤ _; omega
    clear he1 he2 he3 hen hxl st hst hh hS hK
    cases hr : rightT xs
    · rw [hr] at HRT HRD
      have HRN : Hid (readT L = none) := HRD.out
      clear HRD hr
      gi_wp2_with (refine ⟨trivial, ?_⟩; gi_at_call 13; refine (callsIn_wide.2 HRT.out).mono ?_; rintro e W2 ⟨rfl, hb⟩; have ST2 := Lib.hid (HST.out.beyond hb); have hK2 : W2.heap[D]? = some (.deferred (some [])) := (hb.block D (Array.getElem?_eq_some_iff.1 HKD.out).1).trans HKD.out; have k1 := ST2.out.r1.cell; have f1 := ST2.out.r1.frozen; have k2 := ST2.out.r2.cell; have f2 := ST2.out.r2.frozen; have HK2 := Lib.hid hK2; clear hb hK2)
      have hK3 : ((W2.setCell ⟨w.heap.size, 0, none⟩ (.slice none 0 0)).setCell ⟨w.heap.size + 1, 0, none⟩ (.int .i64 4)).heap[D]? = some (.deferred (some [])) :=
        (KeepsOthers.setCell _ _ _).same D _ ((KeepsOthers.setCell _ _ _).same D _ HK2.out rfl) rfl
      have hend := ST2.out.fail.turn (grownBy_putObj' _ D (.deferred none)) (fun r e => by cases e; exact ⟨by have := HDW.out; omega, _, hK3, rfl⟩)
      refine ⟨by simp, .inl ⟨_, _, rfl, run_takeDeferred hK3, ?_⟩⟩
      have hc1 := hend.r1.cell
      have hc2 := hend.r2.cell
      refine ⟨.tuple #[.slice none 0 0, .int .i64 4], ?_, by rw [HRN.out]; exact rfl, hend.bel⟩
      clear hend hK3
      generalize ((W2.setCell ⟨w.heap.size, 0, none⟩ (.slice none 0 0)).setCell ⟨w.heap.size + 1, 0, none⟩ (.int .i64 4)).putObj D (.deferred none) = wf at *
      simp [results, Tryd.f6, go_sem, hc1, hc2]
    · rw [hr] at HRT HRD
      have HRN : Hid (readT L = some xs) := HRD.out
      clear HRD hr
      gi_wp2_with (refine ⟨trivial, ?_⟩; gi_at_call 13; refine (callsIn_wide.2 HRT.out).mono ?_; rintro e W2 ⟨rfl, hb⟩; have ST2 := Lib.hid (HST.out.beyond hb); have hK2 : W2.heap[D]? = some (.deferred (some [])) := (hb.block D (Array.getElem?_eq_some_iff.1 HKD.out).1).trans HKD.out; have k1 := ST2.out.r1.cell; have f1 := ST2.out.r1.frozen; have k2 := ST2.out.r2.cell; have f2 := ST2.out.r2.frozen; have k3 := ST2.out.res.cell; have HK2 := Lib.hid hK2; clear hb hK2)
      have hK3 : ((W2.setCell ⟨w.heap.size, 0, none⟩ (.slice la xl lc)).setCell ⟨w.heap.size + 1, 0, none⟩ (.int .i64 0)).heap[D]? = some (.deferred (some [])) :=
        (KeepsOthers.setCell _ _ _).same D _ ((KeepsOthers.setCell _ _ _).same D _ HK2.out rfl) rfl
      have hrow : ∀ r, some D = some r → w.heap.size ≤ r ∧ ∃ o : Obj, ((W2.setCell ⟨w.heap.size, 0, none⟩ (.slice la xl lc)).setCell ⟨w.heap.size + 1, 0, none⟩ (.int .i64 0)).heap[r]? = some o ∧ o.isCells = false := fun r e => by cases e; exact ⟨by have := HDW.out; omega, _, hK3, rfl⟩
      have hg3 := grownBy_putObj' ((W2.setCell ⟨w.heap.size, 0, none⟩ (.slice la xl lc)).setCell ⟨w.heap.size + 1, 0, none⟩ (.int .i64 0)) D (.deferred none)
      have b1 : Boxed ((W2.setCell ⟨w.heap.size, 0, none⟩ (.slice la xl lc)).setCell ⟨w.heap.size + 1, 0, none⟩ (.int .i64 0)) w.heap.size 23 (.slice la xl lc) := boxed_other (ST2.out.r1.set _) (by omega) _
      have b2 : Boxed ((W2.setCell ⟨w.heap.size, 0, none⟩ (.slice la xl lc)).setCell ⟨w.heap.size + 1, 0, none⟩ (.int .i64 0)) (w.heap.size + 1) 24 (.int .i64 0) := (boxed_other ST2.out.r2 (by omega) _).set _
      have o1 : OwnE 44 (W2.setCell ⟨w.heap.size, 0, none⟩ (.slice la xl lc)) (w.heap.size + 4) (.slice la xl lc) xs := ST2.out.own.kept (grownBy_setCell' W2 _ _) (.inr (fun e => ST2.out.own.blk_ne ST2.out.r1 (by decide) e))
      have o2 : OwnE 44 ((W2.setCell ⟨w.heap.size, 0, none⟩ (.slice la xl lc)).setCell ⟨w.heap.size + 1, 0, none⟩ (.int .i64 0)) (w.heap.size + 4) (.slice la xl lc) xs := o1.kept (grownBy_setCell' _ _ _) (.inr (fun e => o1.blk_ne (boxed_other ST2.out.r2 (show w.heap.size ≠ w.heap.size + 1 by omega) _) (by decide) e))
      have o3 := (o2.turn hg3 (fun r e => (hrow r e).2)).lower (show w.heap.size ≤ w.heap.size + 4 by omega)
      have bl : Below w.heap.size w ((W2.setCell ⟨w.heap.size, 0, none⟩ (.slice la xl lc)).setCell ⟨w.heap.size + 1, 0, none⟩ (.int .i64 0)) := (ST2.out.bel.setCell (p := ⟨w.heap.size, 0, none⟩) (Nat.le_refl _) _).setCell (p := ⟨w.heap.size + 1, 0, none⟩) (by show w.heap.size ≤ w.heap.size + 1; omega) _
      have bl3 := bl.grown hg3 bl.size (fun k e => (hrow k e).1)
      refine ⟨by simp, .inl ⟨_, _, rfl, run_takeDeferred hK3, ?_⟩⟩
      have hc1 := (boxed_turn b1 hg3 (fun r e => (hrow r e).2)).cell
      have hc2 := (boxed_turn b2 hg3 (fun r e => (hrow r e).2)).cell
      refine ⟨.tuple #[.slice la xl lc, .int .i64 0], ?_, by rw [HRN.out]; refine ⟨la, lc, by rw [HXN.out], by rw [HXN.out]; exact o3⟩, bl3⟩
      clear o1 o2 o3 bl bl3 b1 b2 hg3 hrow hK3
      generalize ((W2.setCell ⟨w.heap.size, 0, none⟩ (.slice la xl lc)).setCell ⟨w.heap.size + 1, 0, none⟩ (.int .i64 0)).putObj D (.deferred none) = wf at *
      simp [results, Tryd.f6, go_sem, hc1, hc2]
  case stop =>
    rintro D c pre W hD hpre ⟨rfl, hend0, p, hp, hp2⟩ hK
    have hen : entsT L = none := rnd_none L.length L p (Nat.le_refl _) (hpre.subset hp) hp2
    have HRN : Hid (readT L = none) := by show _ = _; unfold readT; rw [hen]
    gi_wp2
    have hend := hend0.turn (grownBy_putObj' _ D (.deferred none)) (fun r e => by cases e; exact ⟨by omega, _, hK, rfl⟩)
    refine ⟨by simp, .inl ⟨_, _, rfl, run_takeDeferred hK, ?_⟩⟩
    have hc1 := hend.r1.cell
    have hc2 := hend.r2.cell
    refine ⟨.tuple #[.slice none 0 0, .int .i64 4], ?_, by rw [HRN.out]; exact rfl, hend.bel⟩
    clear hend hend0 hK
    generalize W.putObj D (.deferred none) = wf at *
    simp [results, Tryd.f6, go_sem, hc1, hc2]
end Go.Proofs.YtnbkjdakofeeaaaDoor
