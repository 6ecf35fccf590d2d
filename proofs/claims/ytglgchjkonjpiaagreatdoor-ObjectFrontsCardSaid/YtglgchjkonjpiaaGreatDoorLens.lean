/- The lengths of a block's own codes: the walk. -/
import Derived.Test.YtglgchjkonjpiaaGreatDoorInfD
namespace Go.Proofs.YtglgchjkonjpiaaGreatDoor
open Go.RowKit Plain
set_option linter.unusedVariables false
/-- A row of numbers of the call's own. -/
def Row64 (w : World) (base : Nat) (v : Value) (n : Nat) (xs : List Nat) : Prop := w.ownsRow base 3 1 v n (I64s xs)
theorem i64s_len (xs : List Nat) : (I64s xs).length = xs.length := by simp [I64s]
theorem Row64.len {w : World} {base : Nat} {v : Value} {n : Nat} {xs : List Nat} (h : Row64 w base v n xs) : xs.length = n := by have := h.1; rw [i64s_len] at this; omega
theorem Row64.shape {w : World} {base : Nat} {v : Value} {n : Nat} {xs : List Nat} (h : Row64 w base v n xs) : ∃ a c, v = .slice a n c := by
  obtain ⟨h1, ⟨rfl, rfl⟩ | ⟨g, cap, cur, rfl, h3⟩⟩ := h
  · exact ⟨none, 0, rfl⟩
  · exact ⟨_, cap, rfl⟩
theorem Row64.below {w w' : World} {base : Nat} {v : Value} {n : Nat} {xs : List Nat} (h : Row64 w base v n xs) (hb : Below w.heap.size w w') : Row64 w' base v n xs := ownsRow_below h hb
theorem Row64.cap {w : World} {base : Nat} {a : Option Addr} {n c : Nat} {xs : List Nat} (h : Row64 w base (.slice a n c) n xs) : n ≤ c := by
  obtain ⟨h1, ⟨e, rfl⟩ | ⟨g, cap, cur, e, h3, h4, h5, -⟩⟩ := h
  · omega
  · simp only [Value.slice.injEq, true_and] at e
    obtain ⟨rfl, rfl⟩ := e
    exact h5
theorem Row64.nums {w : World} {base : Nat} {a : Option Addr} {n c : Nat} {xs : List Nat} (h : Row64 w base (.slice a n c) n xs) : NumsAt w a n xs ∧ ∀ g o, a = some ⟨g, o, none⟩ → base ≤ g := by
  have hl := h.len
  obtain ⟨h1, ⟨e, rfl⟩ | ⟨g, cap, cur, e, h3, h4, h5, h6, h7, h8⟩⟩ := h
  · simp only [Value.slice.injEq] at e
    obtain ⟨rfl, -, rfl⟩ := e
    exact ⟨⟨hl, fun j hj => absurd hj (by omega)⟩, fun g o e => by cases e⟩
  · simp only [Value.slice.injEq, true_and] at e
    obtain ⟨rfl, rfl⟩ := e
    refine ⟨⟨hl, fun j hj => ⟨g, 0, rfl, ?_⟩⟩, fun g' o e => by injection e with e; injection e with e _; omega⟩
    unfold World.cell?
    simp only [h4, Nat.zero_add]
    have e2 := congrArg (fun l => l[j]?) h8
    simp only [Nat.mul_one] at e2
    rw [List.getElem?_take_of_lt hj, Array.getElem?_toList] at e2
    rw [e2]
    unfold I64s
    rw [List.getElem?_map, List.getElem?_eq_getElem (by omega), List.getD_eq_getElem?_getD, List.getElem?_eq_getElem (by omega)]
    rfl
theorem wpList_append_i1 {w : World} {ops : Array Oper} {rest : List Oper} {o : Oper} {ac : Act} {Q : Exit → Act → World → Prop} (hgd : o.guard = none) (s x : Operand)
    (ho : o.op = .call { callee := .builtin .append, args := #[s, x], argTypes := #[60, 60] })
    (base : Nat) (v : Value) (n : Nat) (xs : List Nat) (hs : ac.eval s = v) (hown : Row64 w base v n xs) (g : Addr) (x0 : Nat) (hx : ac.eval x = .slice (some g) 1 1) (hc : w.cell? g = some (.int .i64 (x0 : Int)))
    (hsum : n + 1 ≤ 1000000) (hbase : base ≤ w.heap.size)
    (h : ∀ a' c' w', Row64 w' base (.slice a' (n + 1) c') (n + 1) (xs ++ [x0]) → w.grownBy w' v.ownBlock → wpList Tryz.prog ops Q rest (ac.put o.dst (.slice a' (n + 1) c')) w') : wpList Tryz.prog ops Q (o :: rest) ac w := by
  obtain ⟨i0, hi, hz0, hz1, hz2⟩ := info_parts i64info
  refine wpList_append_own w hgd s x 60 ho base 3 i0 (.int .i64 0) 1 8 Tryz.underlying60 hi hz0 hz1 hz2 rfl (by decide) v n (I64s xs) hs hown g 1 1 [.int .i64 (x0 : Int)] hx rfl ?_ ?_ (by unfold maxLen; omega) (by omega) hbase fun v' w' hw hg _ => ?_
  · intro j u hu
    cases j with
    | zero => simp only [List.getElem?_cons_zero, Option.some.injEq] at hu; subst hu; rw [show g.add 0 = g by unfold Addr.add; simp]; exact hc
    | succ j => simp at hu
  · intro u hu; rw [List.mem_singleton] at hu; subst hu; rfl
  · have hr : Row64 w' base v' (n + 1) (xs ++ [x0]) := by unfold Row64 I64s; rw [List.map_append]; exact hw
    obtain ⟨a', c', rfl⟩ := hr.shape
    exact h a' c' w' hr hg
theorem OutL.grown {lim : Nat} {w0 : World} {Ob : Nat} {ba : Option Addr} {bn bc N most : Nat} {w w' : World} {p : Nat} {mv : Value} {made : List Int} (h : OutL lim w0 Ob ba bn bc N most w p mv made) {row : Option Nat} (hg : w.grownBy w' row) (h1 : row ≠ some Ob) (h2 : mv.ownBlock = none ∨ mv.ownBlock ≠ row) (h3 : ∀ k, row = some k → w0.heap.size ≤ k) :
    OutL lim w0 Ob ba bn bc N most w' p mv made := by
  have hlt := h.lt
  obtain ⟨a, hd, l, hh, e1, e2, e3, e4, hm, hO, hbel, hge, h5⟩ := h
  exact ⟨a, hd, l, (hg.block Ob hlt (fun e => h1 e.symm)).trans hh, e1, e2, e3, e4, hm.kept hg h2, hO, hbel.grown hg hbel.size h3, hge, h5⟩
theorem row_ge {w : World} {base g o n c : Nat} {sp : Option _} {xs : List Nat} (h : Row64 w base (.slice (some ⟨g, o, sp⟩) n c) n xs) : base ≤ g := by
  obtain ⟨h1, ⟨e, rfl⟩ | ⟨g', cap, cur, e, h3, -⟩⟩ := h
  · cases e
  · simp only [Value.slice.injEq, Option.some.injEq, Addr.mk.injEq] at e
    obtain ⟨⟨rfl, -⟩, -⟩ := e
    exact h3
theorem Row64.turn {Ob : Nat} {mv mv' : Value} {w w' : World} {base : Nat} {v : Value} {n : Nat} {xs : List Nat} (h : Row64 w base v n xs) (ht : Turn Ob mv mv' w w') (hO : Ob < base) (hm : ∀ k, mv.ownBlock = some k → k < base) : Row64 w' base v n xs := by
  obtain ⟨h1, h2 | ⟨g, cap, cur, e, h3, h4, h5⟩⟩ := h
  · exact ⟨h1, .inl h2⟩
  · refine ⟨h1, .inr ⟨g, cap, cur, e, h3, (ht.block g ?_ (by omega) (fun e => by have := hm g e; omega)).trans h4, h5⟩⟩
    exact (Array.getElem?_eq_some_iff.1 h4).1
theorem viaO_put {A : Act} {R : World → Prop} {ch : List PanicEntry} {a : Act} {d : Option Tmp} {v : Value} {w : World} (h : ViaO A R (.panic ch) (a.put d v) w) : ViaO A R (.panic ch) a w := h.elim
theorem make_0n (n : Nat) (hn : n ≤ 100000) (w : World) : (Instr.makeSlice 60 (.int .i64 0) (.int .i64 (n : Int))).run Tryz.prog w = .ok (.slice (some ⟨w.heap.size, 0, none⟩) 0 n) (w.alloc (.cells (I64s (List.replicate n 0)).toArray 3)) := by
  obtain ⟨i, hi, hz0, hz1, hz2⟩ := info_parts i64info
  rw [run_make (P := Tryz.prog) w 60 3 i (.int .i64 0) Tryz.underlying60 hi hz0 .i64 .i64 0 n (by omega) (by omega) (by rw [hz2]; omega) (by omega), hz1]
  have e : madeCells (Value.int .i64 0).cells ((n : Int).toNat * 1) = (I64s (List.replicate n 0)).toArray := by
    apply Array.toList_inj.1
    rw [show (Value.int .i64 0).cells = #[Value.int .i64 0] from rfl, toList_madeCells_one]
    simp [I64s]
  rw [e]
  rfl
theorem row_made (w : World) (n : Nat) (hn : n ≤ 100000) : Row64 (w.alloc (.cells (I64s (List.replicate n 0)).toArray 3)) w.heap.size (.slice (some ⟨w.heap.size, 0, none⟩) 0 n) 0 [] :=
  ⟨rfl, .inr ⟨w.heap.size, n, _, rfl, Nat.le_refl _, heap_alloc_new w _, Nat.zero_le _, by unfold maxLen; omega, by simp [I64s], rfl⟩⟩
/-- What a call that makes lengths tells. -/
def GotL (w0 : World) (Ob : Nat) (ba : Option Addr) (bn bc N most : Nat) (w : World) (mv : Value) (made : List Int) (r : Except Nat (Nat × List Nat)) (e : Ending) (w' : World) : Prop :=
  (∃ q ls a c, r = .ok (q, ls) ∧ e = .returned (.slice a ls.length c) ∧ Turn Ob mv mv w w' ∧ OutL 8 w0 Ob ba bn bc N most w' q mv made ∧ Row64 w' w.heap.size (.slice a ls.length c) ls.length ls ∧ ∀ y ∈ ls, y ≤ 15) ∨ ∃ n, r = .error n ∧ e = .panicked [{ v := .iface 126 (.agg #[.int .i64 (n : Int)]), recovered := false }] ∧ Turn Ob mv mv w w'
set_option maxRecDepth 100000 in
set_option maxHeartbeats 8000000 in
theorem lengths_any {w0 : World} {Ob : Nat} {ba : Option Addr} {bn bc N most : Nat} {bs : List Int} (HS : SrcB w0 ba bn bc N most bs) (w : World) (p : Nat) (mv : Value) (made : List Int) (H : OutL 8 w0 Ob ba bn bc N most w p mv made) (Cb : Nat) (c : CodeS) (HC : CodeAt Ob w mv Cb c) (h18 : ∀ j, c.sg.getD j 0 ≤ 18) (n : Nat) (hn : n ≤ 1000) :
    Calls Tryz.prog 113 #[.pointer (some ⟨Ob, 0, none⟩), .pointer (some ⟨Cb, 0, none⟩), .int .i64 (n : Int)] w (GotL w0 Ob ba bn bc N most w mv made (lensN N (8 * bn) c n p)) := by
  have HSS := Lib.hid HS
  have HO := Lib.hid H
  have HCC := Lib.hid HC
  have H18 := Lib.hid h18
  have hOw := H.lt
  have hbase := H.base
  have HMV := Lib.hid H.mid
  have hmk := make_0n n (by omega)
  clear HS H HC h18
  go_enter Tryz.func113, Tryz.ntmps113
  go_wp2_with fail
  have HR0 := Lib.hid (row_made w n (by omega))
  have HB0 : Hid (Below w.heap.size w (w.alloc (.cells (I64s (List.replicate n 0)).toArray 3))) := (Below.refl _ _).alloc (Nat.le_refl _) _
  clear hmk
  generalize w.alloc (.cells (I64s (List.replicate n 0)).toArray 3) = w1 at *
  go_loopw [7] (fun v wr => ∃ (q : Nat) (ls : List Nat) (a : Option Addr) (cp : Nat), v = .slice a ls.length cp ∧ Row64 wr w.heap.size (.slice a ls.length cp) ls.length ls ∧ OutL 8 w0 Ob ba bn bc N most wr q mv made ∧ Turn Ob mv mv w wr ∧ ls.length ≤ n ∧ (∀ y ∈ ls, y ≤ 15) ∧ lensN N (8 * bn) c n p = lensAt N (8 * bn) c n q ls) (fun v _ => n - sizeV v)
  case atStart => exact ⟨p, [], _, n, rfl, HR0.out, HO.out.below HB0.out, Turn.of_below HB0.out, Nat.zero_le _, (fun y hy => by cases hy), rfl⟩
  case round =>
    obtain ⟨q, ls, a, cp, rfl, hrow, ho, ht, hln, hl15, hs⟩ := hrel
    have HROW := Lib.hid hrow
    have HOr := Lib.hid ho
    have HTr := Lib.hid ht
    have HL15 := Lib.hid hl15
    have HSr := Lib.hid hs
    have hq8 := ho.pos
    have hC1 := HCC.out.turn ht
    have HC1 := Lib.hid hC1
    have hbr := ho.base
    have hws : w.heap.size ≤ wr.heap.size := ht.size
    have hsign := sign_any HSS.out wr q mv made ho Cb c hC1
    clear hrow ho ht hl15 hs hC1 HR0 HB0 HO
    by_cases hend : ls.length < n
    · have hendi : (ls.length : Int) < (n : Int) := by omega
      have HNL : Hid (¬ n ≤ ls.length) := by show ¬ _; omega
      go_wp2_with fail
      refine hsign.mono ?_
      intro e w2 hgot
      obtain ⟨s, r, hr, rfl, ht, ho⟩ | ⟨k, hr, rfl, ht⟩ := hgot.lift
      · have hs18 : s ≤ 18 := by
          obtain ⟨j, hj⟩ := signGo_mem _ _ _ _ _ _ _ _ _ _ _ hr
          rw [hj]; exact H18.out j
        have HR := Lib.hid hr
        have HO2 := Lib.hid ho
        have HT2 := Lib.hid (HTr.out.trans ht)
        have HTS := Lib.hid ht
        clear hsign hgot hr ht ho
        --#TAIL
        have HROW2 := Lib.hid (HROW.out.turn HTS.out (by omega) HMV.out)
        by_cases h16 : s = 16
        · subst h16
          have hnl16 : True := trivial
          by_cases hnil : ls = []
          · have hl0 : ls.length = 0 := by rw [hnil]; rfl
            have hl0i : ((ls.length : Int) == 0) = true := by rw [hl0]; rfl
            have HRES : Hid (lensN N (8 * bn) c n p = .error 4) := by
              show _ = _
              rw [HSr.out]
              exact lensAt_err hq8 HNL.out (one_none HR.out hnil)
            clear hnil
            go_wp2_with fail
            refine (with_any 4 w2).mono ?_
            rintro e w3 ⟨rfl, rfl⟩
            dsimp only [thrown]
            go_wp2_with fail
            exact ⟨rfl, .inr ⟨4, HRES.out, rfl, HT2.out⟩⟩
          · have hlp : 0 < ls.length := List.length_pos_iff.2 hnil
            have hl0i : ((ls.length : Int) == 0) = false := by simp; omega
            have HNIL := Lib.hid hnil
            clear hnil
            obtain ⟨i, hi⟩ : ∃ i, ls.length - 1 = i := ⟨_, rfl⟩
            have hli : (ls.length : Int) - 1 = (i : Int) := by omega
            have hlw : IntKind.i64.wrap ((ls.length : Int) - 1) = (i : Int) := by rw [IntWalk.i64_in _ (by omega)]; exact hli
            have hiw : IntKind.i64.wrap (i : Int) = (i : Int) := IntWalk.i64_in _ (by omega)
            have hil : (i : Int) < (ls.length : Int) := by omega
            obtain ⟨g, o, hag, hcell⟩ := HROW2.out.nums.1.2 i (by omega)
            have hgw := HROW2.out.nums.2 g o hag
            subst hag
            have hy15 : ls.getD i 0 ≤ 15 := by
              have hil2 : i < ls.length := by omega
              rw [List.getD_eq_getElem?_getD, List.getElem?_eq_getElem hil2]
              exact HL15.out _ (List.getElem_mem hil2)
            obtain ⟨y, hy⟩ : ∃ y, ls.getD i 0 = y := ⟨_, rfl⟩
            rw [hy] at hcell hy15
            have HLAST : Hid (ls.getD (ls.length - 1) 0 = y) := by show _ = _; rw [hi, hy]
            clear hi hy
            cases hr : num N (8 * bn) r 2 with
            | ok v =>
              obtain ⟨x, r2⟩ := v
              have hx5 : x < 4 := (num_ok hr).1
              have HRx := Lib.hid hr
              have HCALL : Hid (∀ W, Below w2.heap.size w2 W → Calls Tryz.prog 69 #[.pointer (some ⟨Ob, 0, none⟩), .int .i64 2] W fun e w' => e = .returned (.int .i64 (x : Int)) ∧ Turn Ob mv mv W w' ∧ OutL 8 w0 Ob ba bn bc N most w' r2 mv made) :=
                fun W hW => number_ok HSS.out W r mv made (HO2.out.below hW) 2 (by omega) x r2 hr
              have hr6 : IntKind.i64.wrap (3 + (x : Int)) = 3 + (x : Int) := IntWalk.i64_in _ (by omega)
              clear hr
              go_wp2_with fail
              refine wp_region_noPanic ?_
              refine wp_region_held_drew (S := fun W => W.cell? ⟨g, o + i, none⟩ = some (.int .i64 (y : Int))) (by kernel_rfl) ?_ (fun hHeld => ?_)
              · exact hcell
              refine wpAnyH_take (i := 0) (v := ?_) (by simp only [List.getElem?_toArray, List.getElem?_cons_zero]; rfl) (by kernel_rfl) (by kernel_rfl) (by kernel_rfl) (fun _ _ _ h => h) (Or.inl ⟨by rfl, ?_⟩) (by assumption) ?_
              rotate_left
              · intro W hSW
                go_simp
                try with_reducible rfl
              try simp only [Act.put, List.setIfInBounds_toArray, List.set_cons_zero, List.set_cons_succ]
              refine wpAnyH_take (i := 1) (v := ?_) (by simp only [List.getElem?_toArray, List.getElem?_cons_succ, List.getElem?_cons_zero]; rfl) (by kernel_rfl) (by kernel_rfl) (by kernel_rfl) (fun _ _ _ h => h) (Or.inl ⟨by rfl, ?_⟩) (by assumption) ?_
              rotate_left
              · intro W hSW
                go_simp
                try with_reducible rfl
              try simp only [Act.put, List.setIfInBounds_toArray, List.set_cons_zero, List.set_cons_succ]
              refine wpAnyH_take (i := 2) (v := ?_) (by simp only [List.getElem?_toArray, List.getElem?_cons_succ, List.getElem?_cons_zero]; rfl) (by kernel_rfl) (by kernel_rfl) (by kernel_rfl) (fun _ _ _ h => h) (Or.inl ⟨by rfl, ?_⟩) (by assumption) ?_
              rotate_left
              · intro W hSW
                go_simp
                try with_reducible rfl
              try simp only [Act.put, List.setIfInBounds_toArray, List.set_cons_zero, List.set_cons_succ]
              refine wpAnyH_take (i := 3) (v := ?_) (by simp only [List.getElem?_toArray, List.getElem?_cons_succ, List.getElem?_cons_zero]; rfl) (by kernel_rfl) (by kernel_rfl) (by kernel_rfl) (fun _ _ _ h => h) (Or.inl ⟨by rfl, ?_⟩) (by assumption) ?_
              rotate_left
              · intro W hSW
                go_simp
                try with_reducible rfl
              try simp only [Act.put, List.setIfInBounds_toArray, List.set_cons_zero, List.set_cons_succ]
              refine wpAnyH_take (i := 4) (v := ?_) (by simp only [List.getElem?_toArray, List.getElem?_cons_succ, List.getElem?_cons_zero]; rfl) (by kernel_rfl) (by kernel_rfl) (by kernel_rfl) (fun _ _ _ h => h) (Or.inl ⟨by rfl, ?_⟩) (by assumption) ?_
              rotate_left
              · intro W hSW
                go_simp
                try with_reducible rfl
              try simp only [Act.put, List.setIfInBounds_toArray, List.set_cons_zero, List.set_cons_succ]
              refine wpAnyH_take (i := 5) (v := ?_) (by simp only [List.getElem?_toArray, List.getElem?_cons_succ, List.getElem?_cons_zero]; rfl) (by kernel_rfl) (by kernel_rfl) (by kernel_rfl) (fun _ _ _ h => h) (Or.inl ⟨by rfl, ?_⟩) (by assumption) ?_
              rotate_left
              · intro W hSW
                go_simp
                try with_reducible rfl
              try simp only [Act.put, List.setIfInBounds_toArray, List.set_cons_zero, List.set_cons_succ]
              refine wpAnyH_take (i := 6) (v := ?_) (by simp only [List.getElem?_toArray, List.getElem?_cons_succ, List.getElem?_cons_zero]; rfl) (by kernel_rfl) (by kernel_rfl) (by kernel_rfl) (fun _ _ _ h => h) (Or.inl ⟨by rfl, ?_⟩) (by assumption) ?_
              rotate_left
              · intro W hSW
                go_simp
                try with_reducible rfl
              try simp only [Act.put, List.setIfInBounds_toArray, List.set_cons_zero, List.set_cons_succ]
              refine wpAnyH_take (i := 7) (v := ?_) (by simp only [List.getElem?_toArray, List.getElem?_cons_succ, List.getElem?_cons_zero]; rfl) (by kernel_rfl) (by kernel_rfl) (by kernel_rfl) (fun _ _ _ h => h) (Or.inl ⟨by rfl, ?_⟩) (by assumption) ?_
              rotate_left
              · intro W hSW
                go_simp
                try with_reducible rfl
              try simp only [Act.put, List.setIfInBounds_toArray, List.set_cons_zero, List.set_cons_succ]
              refine wpAnyH_take (i := 8) (v := ?_) (by simp only [List.getElem?_toArray, List.getElem?_cons_succ, List.getElem?_cons_zero]; rfl) (by kernel_rfl) (by kernel_rfl) (by kernel_rfl) (fun _ _ _ h => h) (Or.inl ⟨by rfl, ?_⟩) (by assumption) ?_
              rotate_left
              · intro W hSW
                go_simp
                try with_reducible rfl
              try simp only [Act.put, List.setIfInBounds_toArray, List.set_cons_zero, List.set_cons_succ]
              refine wpAnyH_ready (rs := [9]) (by kernel_rfl) (by simp) ?_
              refine AllReadyH.cons (by simp only [List.getElem?_toArray, List.getElem?_cons_succ, List.getElem?_cons_zero]; rfl) (fun K hK => ?_) AllReadyH.nil
              go_simp
              refine (HCALL.out _ ((Below.refl _ _).drew)).mono ?_
              rintro e w9 ⟨rfl, ht, ho⟩
              have hS9 : w9.cell? ⟨g, o + i, none⟩ = some (.int .i64 (y : Int)) := ht.keeps (show w2.drew.cell? ⟨g, o + i, none⟩ = _ from hcell) (by omega) (fun e => by have := HMV.out _ e; omega)
              have HT := Lib.hid ht
              have HO9 := Lib.hid ho
              clear ht ho
              refine hK.out _ _ hS9 (fun hHeld2 => ?_)
              clear hK K hHeld hHeld2
              try simp only [Act.put, List.setIfInBounds_toArray, List.set_cons_zero, List.set_cons_succ]
              refine wpAnyH_take (i := 10) (v := ?_) (by simp only [List.getElem?_toArray, List.getElem?_cons_succ, List.getElem?_cons_zero]; rfl) (by kernel_rfl) (by kernel_rfl) (by kernel_rfl) (fun _ _ _ h => h) (Or.inl ⟨by rfl, ?_⟩) (by assumption) ?_
              rotate_left
              · intro W hSW
                go_simp
                try with_reducible rfl
              try simp only [Act.put, List.setIfInBounds_toArray, List.set_cons_zero, List.set_cons_succ]
              refine wpAnyH_take (i := 11) (v := ?_) (by simp only [List.getElem?_toArray, List.getElem?_cons_succ, List.getElem?_cons_zero]; rfl) (by kernel_rfl) (by kernel_rfl) (by kernel_rfl) (fun _ _ _ h => h) (Or.inl ⟨by rfl, ?_⟩) (by assumption) ?_
              rotate_left
              · intro W hSW
                go_simp
                try with_reducible rfl
              try simp only [Act.put, List.setIfInBounds_toArray, List.set_cons_zero, List.set_cons_succ]
              refine wpAnyH_take (i := 12) (v := ?_) (by simp only [List.getElem?_toArray, List.getElem?_cons_succ, List.getElem?_cons_zero]; rfl) (by kernel_rfl) (by kernel_rfl) (by kernel_rfl) (fun _ _ _ h => h) (Or.inl ⟨by rfl, ?_⟩) (by assumption) ?_
              rotate_left
              · intro W hSW
                go_simp
                try with_reducible rfl
              try simp only [Act.put, List.setIfInBounds_toArray, List.set_cons_zero, List.set_cons_succ]
              refine wpAnyH_done (by kernel_rfl) ?_ _
              refine NoPanic.normal ?_
              have ht := HT.out.after ((Below.refl _ _).drew)
              have HO4 := HO9
              have HT4 := Lib.hid (HT2.out.trans ht)
              have HROW4 := Lib.hid (HROW2.out.turn ht (by omega) HMV.out)
              clear ht hcell hli hlw hiw hr6 HT HO9 hS9
              obtain ⟨w4, hw4⟩ : ∃ w4, w9 = w4 := ⟨_, rfl⟩
              subst hw4
              have HONE : Hid (oneLen N (8 * bn) c q ls = .ok (y, 3 + x, r2)) := by have := one_16 HR.out HNIL.out HRx.out; rw [HLAST.out] at this; exact this
              have hadv := (adv_oneLen HONE.out).2.1
              by_cases hmany : n - ls.length < 3 + x
              · have hmi : (n : Int) - (ls.length : Int) < (3 + (x : Int)) := by omega
                have HRES : Hid (lensN N (8 * bn) c n p = .error 4) := by
                  show _ = _
                  rw [HSr.out]
                  exact lensAt_many hq8 HNL.out HONE.out hmany
                go_wp2_with fail
                refine (with_any 4 w9).mono ?_
                rintro e w3 ⟨rfl, rfl⟩
                dsimp only [thrown]
                go_wp2_with fail
                exact ⟨rfl, .inr ⟨4, HRES.out, rfl, HT4.out⟩⟩
              · have hmi : ¬ (n : Int) - (ls.length : Int) < (3 + (x : Int)) := by omega
                have HRES : Hid (lensN N (8 * bn) c n p = lensAt N (8 * bn) c n r2 (ls ++ List.replicate (3 + x) (y))) := by
                  show _ = _
                  rw [HSr.out]
                  exact lensAt_on hq8 HNL.out HONE.out hmany
                go_wp2_with fail
                go_loopw [7, 61] (fun v vi wx => ∃ (j : Nat) (a' : Option Addr) (cp' : Nat), vi = .int .i64 (j : Int) ∧ j ≤ 3 + x ∧ v = .slice a' (ls.length + j) cp' ∧ Row64 wx w.heap.size (.slice a' (ls.length + j) cp') (ls.length + j) (ls ++ List.replicate j (y)) ∧ OutL 8 w0 Ob ba bn bc N most wx r2 mv made ∧ Turn Ob mv mv w wx) (fun _ vi _ => 3 + x - (intOf vi).toNat)
                case atStart => exact ⟨0, _, cp, rfl, Nat.zero_le _, rfl, by rw [List.replicate_zero, List.append_nil]; exact HROW4.out, HO4.out, HT4.out⟩
                case round =>
                  obtain ⟨j, a', cp', rfl, hj, rfl, hrow, ho, ht⟩ := hrel
                  have HROWx := Lib.hid hrow
                  have HOx := Lib.hid ho
                  have HTx := Lib.hid ht
                  have hwx : w.heap.size ≤ wr.heap.size := ht.size
                  have hmid := ho.mid
                  have HMx := Lib.hid hmid
                  have hbx := ho.base
                  clear hrow ho ht hmid
                  by_cases hlt : j < 3 + x
                  · have hlti : (j : Int) < (3 + (x : Int)) := by omega
                    have HB4 : Hid (Below wr.heap.size wr (wr.alloc (.cells #[.int .i64 (y : Int)] 3))) := (Below.refl _ _).alloc (Nat.le_refl _) _
                    have hcn : (wr.alloc (.cells #[.int .i64 (y : Int)] 3)).cell? ⟨wr.heap.size, 0, none⟩ = some (.int .i64 (y : Int)) := (cell_row0 _ wr.heap.size 0 _ _ _ (heap_alloc_new wr _)).trans rfl
                    have HCN := Lib.hid hcn
                    clear hcn
                    have tok : True := trivial
                    go_wp2_with (
                      have _t := tok
                      at_builtin
                      refine wpList_append_i1 rfl _ _ rfl w.heap.size (.slice a' (ls.length + j) cp') (ls.length + j) (ls ++ List.replicate j (y)) rfl (HROWx.out.below HB4.out) ⟨wr.heap.size, 0, none⟩ (y) rfl HCN.out (by omega) (Nat.le_trans hwx HB4.out.size) ?_
                      intro a5 c5 w5 hrow5 hg5
                      have HR5 := Lib.hid hrow5
                      have HG5 := Lib.hid hg5
                      clear tok hrow5 hg5
                      refine Hid.out ?_)
                    refine unhid ?_
                    have hown : ∀ k, (Value.slice a' (ls.length + j) cp').ownBlock = some k → w.heap.size ≤ k := fun k hk => by
                      have h1 := HROWx.out.nums.2
                      cases a' with
                      | none => cases hk
                      | some ad =>
                        obtain ⟨g, o, sp⟩ := ad
                        simp only [Value.ownBlock, Option.some.injEq] at hk
                        subst hk
                        exact row_ge HROWx.out
                    have HO5 : Hid (OutL 8 w0 Ob ba bn bc N most w5 r2 mv made) := (HOx.out.below HB4.out).grown HG5.out (fun e => by have := hown _ e; omega) (by
                      cases hmv : mv.ownBlock with
                      | none => exact .inl rfl
                      | some k => exact .inr (fun e => by have := hown k e.symm; have := HMV.out k hmv; omega)) (fun k hk => by have := hown k hk; omega)
                    have HT5 : Hid (Turn Ob mv mv w w5) := (HTx.out.later (HB4.out.mono hwx)).later ((Below.refl w.heap.size _).grown HG5.out (Nat.le_trans hwx HB4.out.size) hown)
                    have HE : Hid (ls ++ List.replicate j (y) ++ [y] = ls ++ List.replicate (j + 1) (y)) := by show _ = _; rw [List.append_assoc, ← List.replicate_succ']
                    clear hown
                    go_wp2_with fail
                    exact ⟨⟨j + 1, a5, c5, by go_num, by omega, rfl, by rw [← HE.out]; exact HR5.out, HO5.out, HT5.out⟩, by simp [intOf]; omega⟩
                  · have hlti : ¬ (j : Int) < (3 + (x : Int)) := by omega
                    obtain rfl : j = 3 + x := by omega
                    have hlen2 : (ls ++ List.replicate (3 + x) (y)).length = ls.length + (3 + x) := by rw [List.length_append, List.length_replicate]
                    have HLEN2 := Lib.hid hlen2
                    have HROWy : Hid (Row64 wr w.heap.size (.slice a' (ls ++ List.replicate (3 + x) (y)).length cp') (ls ++ List.replicate (3 + x) (y)).length (ls ++ List.replicate (3 + x) (y))) := by show Row64 _ _ _ _ _; rw [hlen2]; exact HROWx.out
                    have HV : Hid (Value.slice a' (ls.length + (3 + x)) cp' = .slice a' (ls ++ List.replicate (3 + x) (y)).length cp') := by show _ = _; rw [hlen2]
                    clear hlen2
                    go_wp2_with fail
                    exact ⟨⟨r2, ls ++ List.replicate (3 + x) (y), a', cp', HV.out, HROWy.out, HOx.out, HTx.out, by rw [HLEN2.out]; omega, fun y hy => by
                      rcases List.mem_append.1 hy with h | h
                      · exact HL15.out y h
                      · rw [(List.mem_replicate.1 h).2]; omega, HRES.out⟩, by simp [sizeV]; omega⟩
            | error er =>
              have HRES : Hid (lensN N (8 * bn) c n p = .error er) := by
                show _ = _
                rw [HSr.out]
                exact lensAt_err hq8 HNL.out (one_16e HR.out HNIL.out hr)
              have HCALL : Hid (∀ W, Below w2.heap.size w2 W → Calls Tryz.prog 69 #[.pointer (some ⟨Ob, 0, none⟩), .int .i64 2] W fun e w' => e = .panicked [{ v := .iface 126 (.agg #[.int .i64 (er : Int)]), recovered := false }] ∧ Turn Ob mv mv W w') :=
                fun W hW => number_err HSS.out W r mv made (HO2.out.below hW) 2 (by omega) er hr
              clear hr
              go_wp2_with fail
              refine wp_panics [{ v := .iface 126 (.agg #[.int .i64 (er : Int)]), recovered := false }] (fun W => Turn Ob mv mv w2 W) ?_ (fun a' W hdf ht => ⟨hdf, .inr ⟨er, HRES.out, rfl, HT2.out.trans ht⟩⟩)
              refine wp_region_held_drew (S := fun W => W.cell? ⟨g, o + i, none⟩ = some (.int .i64 (y : Int))) (by kernel_rfl) ?_ (fun hHeld => ?_)
              · exact hcell
              refine wpAnyH_take (i := 0) (v := ?_) (by simp only [List.getElem?_toArray, List.getElem?_cons_zero]; rfl) (by kernel_rfl) (by kernel_rfl) (by kernel_rfl) (fun _ _ _ h => panicPost_put h) (Or.inl ⟨by rfl, ?_⟩) (by assumption) ?_
              rotate_left
              · intro W hSW
                go_simp
                try with_reducible rfl
              try simp only [Act.put, List.setIfInBounds_toArray, List.set_cons_zero, List.set_cons_succ]
              refine wpAnyH_take (i := 1) (v := ?_) (by simp only [List.getElem?_toArray, List.getElem?_cons_succ, List.getElem?_cons_zero]; rfl) (by kernel_rfl) (by kernel_rfl) (by kernel_rfl) (fun _ _ _ h => panicPost_put h) (Or.inl ⟨by rfl, ?_⟩) (by assumption) ?_
              rotate_left
              · intro W hSW
                go_simp
                try with_reducible rfl
              try simp only [Act.put, List.setIfInBounds_toArray, List.set_cons_zero, List.set_cons_succ]
              refine wpAnyH_take (i := 2) (v := ?_) (by simp only [List.getElem?_toArray, List.getElem?_cons_succ, List.getElem?_cons_zero]; rfl) (by kernel_rfl) (by kernel_rfl) (by kernel_rfl) (fun _ _ _ h => panicPost_put h) (Or.inl ⟨by rfl, ?_⟩) (by assumption) ?_
              rotate_left
              · intro W hSW
                go_simp
                try with_reducible rfl
              try simp only [Act.put, List.setIfInBounds_toArray, List.set_cons_zero, List.set_cons_succ]
              refine wpAnyH_take (i := 3) (v := ?_) (by simp only [List.getElem?_toArray, List.getElem?_cons_succ, List.getElem?_cons_zero]; rfl) (by kernel_rfl) (by kernel_rfl) (by kernel_rfl) (fun _ _ _ h => panicPost_put h) (Or.inl ⟨by rfl, ?_⟩) (by assumption) ?_
              rotate_left
              · intro W hSW
                go_simp
                try with_reducible rfl
              try simp only [Act.put, List.setIfInBounds_toArray, List.set_cons_zero, List.set_cons_succ]
              refine wpAnyH_take (i := 4) (v := ?_) (by simp only [List.getElem?_toArray, List.getElem?_cons_succ, List.getElem?_cons_zero]; rfl) (by kernel_rfl) (by kernel_rfl) (by kernel_rfl) (fun _ _ _ h => panicPost_put h) (Or.inl ⟨by rfl, ?_⟩) (by assumption) ?_
              rotate_left
              · intro W hSW
                go_simp
                try with_reducible rfl
              try simp only [Act.put, List.setIfInBounds_toArray, List.set_cons_zero, List.set_cons_succ]
              refine wpAnyH_take (i := 5) (v := ?_) (by simp only [List.getElem?_toArray, List.getElem?_cons_succ, List.getElem?_cons_zero]; rfl) (by kernel_rfl) (by kernel_rfl) (by kernel_rfl) (fun _ _ _ h => panicPost_put h) (Or.inl ⟨by rfl, ?_⟩) (by assumption) ?_
              rotate_left
              · intro W hSW
                go_simp
                try with_reducible rfl
              try simp only [Act.put, List.setIfInBounds_toArray, List.set_cons_zero, List.set_cons_succ]
              refine wpAnyH_take (i := 6) (v := ?_) (by simp only [List.getElem?_toArray, List.getElem?_cons_succ, List.getElem?_cons_zero]; rfl) (by kernel_rfl) (by kernel_rfl) (by kernel_rfl) (fun _ _ _ h => panicPost_put h) (Or.inl ⟨by rfl, ?_⟩) (by assumption) ?_
              rotate_left
              · intro W hSW
                go_simp
                try with_reducible rfl
              try simp only [Act.put, List.setIfInBounds_toArray, List.set_cons_zero, List.set_cons_succ]
              refine wpAnyH_take (i := 7) (v := ?_) (by simp only [List.getElem?_toArray, List.getElem?_cons_succ, List.getElem?_cons_zero]; rfl) (by kernel_rfl) (by kernel_rfl) (by kernel_rfl) (fun _ _ _ h => panicPost_put h) (Or.inl ⟨by rfl, ?_⟩) (by assumption) ?_
              rotate_left
              · intro W hSW
                go_simp
                try with_reducible rfl
              try simp only [Act.put, List.setIfInBounds_toArray, List.set_cons_zero, List.set_cons_succ]
              refine wpAnyH_take (i := 8) (v := ?_) (by simp only [List.getElem?_toArray, List.getElem?_cons_succ, List.getElem?_cons_zero]; rfl) (by kernel_rfl) (by kernel_rfl) (by kernel_rfl) (fun _ _ _ h => panicPost_put h) (Or.inl ⟨by rfl, ?_⟩) (by assumption) ?_
              rotate_left
              · intro W hSW
                go_simp
                try with_reducible rfl
              try simp only [Act.put, List.setIfInBounds_toArray, List.set_cons_zero, List.set_cons_succ]
              refine wpAnyH_ready (rs := [9]) (by kernel_rfl) (by simp) ?_
              refine AllReadyH.cons (by simp only [List.getElem?_toArray, List.getElem?_cons_succ, List.getElem?_cons_zero]; rfl) (fun K hK => ?_) AllReadyH.nil
              go_simp
              refine (HCALL.out _ ((Below.refl _ _).drew)).mono ?_
              rintro e w9 ⟨rfl, ht⟩
              have HT := Lib.hid ht
              clear ht hK
              exact ⟨rfl, rfl, HT.out.after ((Below.refl _ _).drew)⟩
        · have h16i : ((s : Int) == 16) = false := by simp; omega
          by_cases hk : s = 17
          · subst hk
            have hnum := number_any HSS.out w2 r mv made HO2.out 3 (by omega)
            go_wp2_with fail
            refine hnum.mono ?_
            intro e w4 hgot
            obtain ⟨x, r2, hr, rfl, ht, ho⟩ | ⟨k, hr, rfl, ht⟩ := hgot.lift
            · have hx := (num_ok hr).1
              have HRx := Lib.hid hr
              have hx5 : x < 8 := hx
              have HO4 := Lib.hid ho
              have HT4 := Lib.hid (HT2.out.trans ht)
              have HROW4 := Lib.hid (HROW2.out.turn ht (by omega) HMV.out)
              clear hnum hgot hr ht ho hx
              have HONE : Hid (oneLen N (8 * bn) c q ls = .ok (0, 3 + x, r2)) := one_17 HR.out HRx.out
              have hadv := (adv_oneLen HONE.out).2.1
              by_cases hmany : n - ls.length < 3 + x
              · have hmi : (n : Int) - (ls.length : Int) < (3 + (x : Int)) := by omega
                have HRES : Hid (lensN N (8 * bn) c n p = .error 4) := by
                  show _ = _
                  rw [HSr.out]
                  exact lensAt_many hq8 HNL.out HONE.out hmany
                go_wp2_with fail
                refine (with_any 4 w4).mono ?_
                rintro e w3 ⟨rfl, rfl⟩
                dsimp only [thrown]
                go_wp2_with fail
                exact ⟨rfl, .inr ⟨4, HRES.out, rfl, HT4.out⟩⟩
              · have hmi : ¬ (n : Int) - (ls.length : Int) < (3 + (x : Int)) := by omega
                have HRES : Hid (lensN N (8 * bn) c n p = lensAt N (8 * bn) c n r2 (ls ++ List.replicate (3 + x) (0))) := by
                  show _ = _
                  rw [HSr.out]
                  exact lensAt_on hq8 HNL.out HONE.out hmany
                go_wp2_with fail
                go_loopw [7, 61] (fun v vi wx => ∃ (j : Nat) (a' : Option Addr) (cp' : Nat), vi = .int .i64 (j : Int) ∧ j ≤ 3 + x ∧ v = .slice a' (ls.length + j) cp' ∧ Row64 wx w.heap.size (.slice a' (ls.length + j) cp') (ls.length + j) (ls ++ List.replicate j (0)) ∧ OutL 8 w0 Ob ba bn bc N most wx r2 mv made ∧ Turn Ob mv mv w wx) (fun _ vi _ => 3 + x - (intOf vi).toNat)
                case atStart => exact ⟨0, a, cp, rfl, Nat.zero_le _, rfl, by rw [List.replicate_zero, List.append_nil]; exact HROW4.out, HO4.out, HT4.out⟩
                case round =>
                  obtain ⟨j, a', cp', rfl, hj, rfl, hrow, ho, ht⟩ := hrel
                  have HROWx := Lib.hid hrow
                  have HOx := Lib.hid ho
                  have HTx := Lib.hid ht
                  have hwx : w.heap.size ≤ wr.heap.size := ht.size
                  have hmid := ho.mid
                  have HMx := Lib.hid hmid
                  have hbx := ho.base
                  clear hrow ho ht hmid
                  by_cases hlt : j < 3 + x
                  · have hlti : (j : Int) < (3 + (x : Int)) := by omega
                    have HB4 : Hid (Below wr.heap.size wr (wr.alloc (.cells #[.int .i64 0] 3))) := (Below.refl _ _).alloc (Nat.le_refl _) _
                    have hcn : (wr.alloc (.cells #[.int .i64 0] 3)).cell? ⟨wr.heap.size, 0, none⟩ = some (.int .i64 0) := (cell_row0 _ wr.heap.size 0 _ _ _ (heap_alloc_new wr _)).trans rfl
                    have HCN := Lib.hid hcn
                    clear hcn
                    have tok : True := trivial
                    go_wp2_with (
                      have _t := tok
                      at_builtin
                      refine wpList_append_i1 rfl _ _ rfl w.heap.size (.slice a' (ls.length + j) cp') (ls.length + j) (ls ++ List.replicate j (0)) rfl (HROWx.out.below HB4.out) ⟨wr.heap.size, 0, none⟩ (0) rfl HCN.out (by omega) (Nat.le_trans hwx HB4.out.size) ?_
                      intro a5 c5 w5 hrow5 hg5
                      have HR5 := Lib.hid hrow5
                      have HG5 := Lib.hid hg5
                      clear tok hrow5 hg5
                      refine Hid.out ?_)
                    refine unhid ?_
                    have hown : ∀ k, (Value.slice a' (ls.length + j) cp').ownBlock = some k → w.heap.size ≤ k := fun k hk => by
                      have h1 := HROWx.out.nums.2
                      cases a' with
                      | none => cases hk
                      | some ad =>
                        obtain ⟨g, o, sp⟩ := ad
                        simp only [Value.ownBlock, Option.some.injEq] at hk
                        subst hk
                        exact row_ge HROWx.out
                    have HO5 : Hid (OutL 8 w0 Ob ba bn bc N most w5 r2 mv made) := (HOx.out.below HB4.out).grown HG5.out (fun e => by have := hown _ e; omega) (by
                      cases hmv : mv.ownBlock with
                      | none => exact .inl rfl
                      | some k => exact .inr (fun e => by have := hown k e.symm; have := HMV.out k hmv; omega)) (fun k hk => by have := hown k hk; omega)
                    have HT5 : Hid (Turn Ob mv mv w w5) := (HTx.out.later (HB4.out.mono hwx)).later ((Below.refl w.heap.size _).grown HG5.out (Nat.le_trans hwx HB4.out.size) hown)
                    have HE : Hid (ls ++ List.replicate j (0) ++ [0] = ls ++ List.replicate (j + 1) (0)) := by show _ = _; rw [List.append_assoc, ← List.replicate_succ']
                    clear hown
                    go_wp2_with fail
                    exact ⟨⟨j + 1, a5, c5, by go_num, by omega, rfl, by rw [← HE.out]; exact HR5.out, HO5.out, HT5.out⟩, by simp [intOf]; omega⟩
                  · have hlti : ¬ (j : Int) < (3 + (x : Int)) := by omega
                    obtain rfl : j = 3 + x := by omega
                    have hlen2 : (ls ++ List.replicate (3 + x) (0)).length = ls.length + (3 + x) := by rw [List.length_append, List.length_replicate]
                    have HLEN2 := Lib.hid hlen2
                    have HROWy : Hid (Row64 wr w.heap.size (.slice a' (ls ++ List.replicate (3 + x) (0)).length cp') (ls ++ List.replicate (3 + x) (0)).length (ls ++ List.replicate (3 + x) (0))) := by show Row64 _ _ _ _ _; rw [hlen2]; exact HROWx.out
                    have HV : Hid (Value.slice a' (ls.length + (3 + x)) cp' = .slice a' (ls ++ List.replicate (3 + x) (0)).length cp') := by show _ = _; rw [hlen2]
                    clear hlen2
                    go_wp2_with fail
                    exact ⟨⟨r2, ls ++ List.replicate (3 + x) (0), a', cp', HV.out, HROWy.out, HOx.out, HTx.out, by rw [HLEN2.out]; omega, fun y hy => by
                      rcases List.mem_append.1 hy with h | h
                      · exact HL15.out y h
                      · rw [(List.mem_replicate.1 h).2]; omega, HRES.out⟩, by simp [sizeV]; omega⟩
            · have HT4 := Lib.hid (HT2.out.trans ht)
              have HRES : Hid (lensN N (8 * bn) c n p = .error k) := by
                show _ = _
                rw [HSr.out]
                exact lensAt_err hq8 HNL.out (one_17e HR.out hr)
              clear hnum hgot hr ht
              go_wp2_with fail
              exact ⟨rfl, .inr ⟨k, HRES.out, rfl, HT4.out⟩⟩
          · have h17i : ((s : Int) == 17) = false := by simp; omega
            have h17 := hk
            clear hk
            by_cases hk : s = 18
            · subst hk
              have hnum := number_any HSS.out w2 r mv made HO2.out 7 (by omega)
              go_wp2_with fail
              refine hnum.mono ?_
              intro e w4 hgot
              obtain ⟨x, r2, hr, rfl, ht, ho⟩ | ⟨k, hr, rfl, ht⟩ := hgot.lift
              · have hx := (num_ok hr).1
                have HRx := Lib.hid hr
                have hx5 : x < 128 := hx
                have HO4 := Lib.hid ho
                have HT4 := Lib.hid (HT2.out.trans ht)
                have HROW4 := Lib.hid (HROW2.out.turn ht (by omega) HMV.out)
                clear hnum hgot hr ht ho hx
                have HONE : Hid (oneLen N (8 * bn) c q ls = .ok (0, 11 + x, r2)) := one_18 HR.out HRx.out
                have hadv := (adv_oneLen HONE.out).2.1
                by_cases hmany : n - ls.length < 11 + x
                · have hmi : (n : Int) - (ls.length : Int) < (11 + (x : Int)) := by omega
                  have HRES : Hid (lensN N (8 * bn) c n p = .error 4) := by
                    show _ = _
                    rw [HSr.out]
                    exact lensAt_many hq8 HNL.out HONE.out hmany
                  go_wp2_with fail
                  refine (with_any 4 w4).mono ?_
                  rintro e w3 ⟨rfl, rfl⟩
                  dsimp only [thrown]
                  go_wp2_with fail
                  exact ⟨rfl, .inr ⟨4, HRES.out, rfl, HT4.out⟩⟩
                · have hmi : ¬ (n : Int) - (ls.length : Int) < (11 + (x : Int)) := by omega
                  have HRES : Hid (lensN N (8 * bn) c n p = lensAt N (8 * bn) c n r2 (ls ++ List.replicate (11 + x) (0))) := by
                    show _ = _
                    rw [HSr.out]
                    exact lensAt_on hq8 HNL.out HONE.out hmany
                  go_wp2_with fail
                  go_loopw [7, 61] (fun v vi wx => ∃ (j : Nat) (a' : Option Addr) (cp' : Nat), vi = .int .i64 (j : Int) ∧ j ≤ 11 + x ∧ v = .slice a' (ls.length + j) cp' ∧ Row64 wx w.heap.size (.slice a' (ls.length + j) cp') (ls.length + j) (ls ++ List.replicate j (0)) ∧ OutL 8 w0 Ob ba bn bc N most wx r2 mv made ∧ Turn Ob mv mv w wx) (fun _ vi _ => 11 + x - (intOf vi).toNat)
                  case atStart => exact ⟨0, a, cp, rfl, Nat.zero_le _, rfl, by rw [List.replicate_zero, List.append_nil]; exact HROW4.out, HO4.out, HT4.out⟩
                  case round =>
                    obtain ⟨j, a', cp', rfl, hj, rfl, hrow, ho, ht⟩ := hrel
                    have HROWx := Lib.hid hrow
                    have HOx := Lib.hid ho
                    have HTx := Lib.hid ht
                    have hwx : w.heap.size ≤ wr.heap.size := ht.size
                    have hmid := ho.mid
                    have HMx := Lib.hid hmid
                    have hbx := ho.base
                    clear hrow ho ht hmid
                    by_cases hlt : j < 11 + x
                    · have hlti : (j : Int) < (11 + (x : Int)) := by omega
                      have HB4 : Hid (Below wr.heap.size wr (wr.alloc (.cells #[.int .i64 0] 3))) := (Below.refl _ _).alloc (Nat.le_refl _) _
                      have hcn : (wr.alloc (.cells #[.int .i64 0] 3)).cell? ⟨wr.heap.size, 0, none⟩ = some (.int .i64 0) := (cell_row0 _ wr.heap.size 0 _ _ _ (heap_alloc_new wr _)).trans rfl
                      have HCN := Lib.hid hcn
                      clear hcn
                      have tok : True := trivial
                      go_wp2_with (
                        have _t := tok
                        at_builtin
                        refine wpList_append_i1 rfl _ _ rfl w.heap.size (.slice a' (ls.length + j) cp') (ls.length + j) (ls ++ List.replicate j (0)) rfl (HROWx.out.below HB4.out) ⟨wr.heap.size, 0, none⟩ (0) rfl HCN.out (by omega) (Nat.le_trans hwx HB4.out.size) ?_
                        intro a5 c5 w5 hrow5 hg5
                        have HR5 := Lib.hid hrow5
                        have HG5 := Lib.hid hg5
                        clear tok hrow5 hg5
                        refine Hid.out ?_)
                      refine unhid ?_
                      have hown : ∀ k, (Value.slice a' (ls.length + j) cp').ownBlock = some k → w.heap.size ≤ k := fun k hk => by
                        have h1 := HROWx.out.nums.2
                        cases a' with
                        | none => cases hk
                        | some ad =>
                          obtain ⟨g, o, sp⟩ := ad
                          simp only [Value.ownBlock, Option.some.injEq] at hk
                          subst hk
                          exact row_ge HROWx.out
                      have HO5 : Hid (OutL 8 w0 Ob ba bn bc N most w5 r2 mv made) := (HOx.out.below HB4.out).grown HG5.out (fun e => by have := hown _ e; omega) (by
                        cases hmv : mv.ownBlock with
                        | none => exact .inl rfl
                        | some k => exact .inr (fun e => by have := hown k e.symm; have := HMV.out k hmv; omega)) (fun k hk => by have := hown k hk; omega)
                      have HT5 : Hid (Turn Ob mv mv w w5) := (HTx.out.later (HB4.out.mono hwx)).later ((Below.refl w.heap.size _).grown HG5.out (Nat.le_trans hwx HB4.out.size) hown)
                      have HE : Hid (ls ++ List.replicate j (0) ++ [0] = ls ++ List.replicate (j + 1) (0)) := by show _ = _; rw [List.append_assoc, ← List.replicate_succ']
                      clear hown
                      go_wp2_with fail
                      exact ⟨⟨j + 1, a5, c5, by go_num, by omega, rfl, by rw [← HE.out]; exact HR5.out, HO5.out, HT5.out⟩, by simp [intOf]; omega⟩
                    · have hlti : ¬ (j : Int) < (11 + (x : Int)) := by omega
                      obtain rfl : j = 11 + x := by omega
                      have hlen2 : (ls ++ List.replicate (11 + x) (0)).length = ls.length + (11 + x) := by rw [List.length_append, List.length_replicate]
                      have HLEN2 := Lib.hid hlen2
                      have HROWy : Hid (Row64 wr w.heap.size (.slice a' (ls ++ List.replicate (11 + x) (0)).length cp') (ls ++ List.replicate (11 + x) (0)).length (ls ++ List.replicate (11 + x) (0))) := by show Row64 _ _ _ _ _; rw [hlen2]; exact HROWx.out
                      have HV : Hid (Value.slice a' (ls.length + (11 + x)) cp' = .slice a' (ls ++ List.replicate (11 + x) (0)).length cp') := by show _ = _; rw [hlen2]
                      clear hlen2
                      go_wp2_with fail
                      exact ⟨⟨r2, ls ++ List.replicate (11 + x) (0), a', cp', HV.out, HROWy.out, HOx.out, HTx.out, by rw [HLEN2.out]; omega, fun y hy => by
                        rcases List.mem_append.1 hy with h | h
                        · exact HL15.out y h
                        · rw [(List.mem_replicate.1 h).2]; omega, HRES.out⟩, by simp [sizeV]; omega⟩
              · have HT4 := Lib.hid (HT2.out.trans ht)
                have HRES : Hid (lensN N (8 * bn) c n p = .error k) := by
                  show _ = _
                  rw [HSr.out]
                  exact lensAt_err hq8 HNL.out (one_18e HR.out hr)
                clear hnum hgot hr ht
                go_wp2_with fail
                exact ⟨rfl, .inr ⟨k, HRES.out, rfl, HT4.out⟩⟩
            · have h18i : ((s : Int) == 18) = false := by simp; omega
              have HONE : Hid (oneLen N (8 * bn) c q ls = .ok (s, 1, r)) := one_plain HR.out h16 h17 hk
              have hadv := (adv_oneLen HONE.out).2.1
              by_cases hmany : n - ls.length < 1
              · have hmi : (n : Int) - (ls.length : Int) < 1 := by omega
                have HRES : Hid (lensN N (8 * bn) c n p = .error 4) := by
                  show _ = _
                  rw [HSr.out]
                  exact lensAt_many hq8 HNL.out HONE.out hmany
                go_wp2_with fail
                refine (with_any 4 w2).mono ?_
                rintro e w3 ⟨rfl, rfl⟩
                dsimp only [thrown]
                go_wp2_with fail
                exact ⟨rfl, .inr ⟨4, HRES.out, rfl, HT2.out⟩⟩
              · have hmi : ¬ (n : Int) - (ls.length : Int) < 1 := by omega
                have HRES : Hid (lensN N (8 * bn) c n p = lensAt N (8 * bn) c n r (ls ++ List.replicate (1) (s))) := by
                  show _ = _
                  rw [HSr.out]
                  exact lensAt_on hq8 HNL.out HONE.out hmany
                go_wp2_with fail
                go_loopw [7, 61] (fun v vi wx => ∃ (j : Nat) (a' : Option Addr) (cp' : Nat), vi = .int .i64 (j : Int) ∧ j ≤ 1 ∧ v = .slice a' (ls.length + j) cp' ∧ Row64 wx w.heap.size (.slice a' (ls.length + j) cp') (ls.length + j) (ls ++ List.replicate j (s)) ∧ OutL 8 w0 Ob ba bn bc N most wx r mv made ∧ Turn Ob mv mv w wx) (fun _ vi _ => 1 - (intOf vi).toNat)
                case atStart => exact ⟨0, a, cp, rfl, Nat.zero_le _, rfl, by rw [List.replicate_zero, List.append_nil]; exact HROW2.out, HO2.out, HT2.out⟩
                case round =>
                  obtain ⟨j, a', cp', rfl, hj, rfl, hrow, ho, ht⟩ := hrel
                  have HROWx := Lib.hid hrow
                  have HOx := Lib.hid ho
                  have HTx := Lib.hid ht
                  have hwx : w.heap.size ≤ wr.heap.size := ht.size
                  have hmid := ho.mid
                  have HMx := Lib.hid hmid
                  have hbx := ho.base
                  clear hrow ho ht hmid
                  by_cases hlt : j < 1
                  · have hlti : (j : Int) < 1 := by omega
                    have HB4 : Hid (Below wr.heap.size wr (wr.alloc (.cells #[.int .i64 (s : Int)] 3))) := (Below.refl _ _).alloc (Nat.le_refl _) _
                    have hcn : (wr.alloc (.cells #[.int .i64 (s : Int)] 3)).cell? ⟨wr.heap.size, 0, none⟩ = some (.int .i64 (s : Int)) := (cell_row0 _ wr.heap.size 0 _ _ _ (heap_alloc_new wr _)).trans rfl
                    have HCN := Lib.hid hcn
                    clear hcn
                    have tok : True := trivial
                    go_wp2_with (
                      have _t := tok
                      at_builtin
                      refine wpList_append_i1 rfl _ _ rfl w.heap.size (.slice a' (ls.length + j) cp') (ls.length + j) (ls ++ List.replicate j (s)) rfl (HROWx.out.below HB4.out) ⟨wr.heap.size, 0, none⟩ (s) rfl HCN.out (by omega) (Nat.le_trans hwx HB4.out.size) ?_
                      intro a5 c5 w5 hrow5 hg5
                      have HR5 := Lib.hid hrow5
                      have HG5 := Lib.hid hg5
                      clear tok hrow5 hg5
                      refine Hid.out ?_)
                    refine unhid ?_
                    have hown : ∀ k, (Value.slice a' (ls.length + j) cp').ownBlock = some k → w.heap.size ≤ k := fun k hk => by
                      have h1 := HROWx.out.nums.2
                      cases a' with
                      | none => cases hk
                      | some ad =>
                        obtain ⟨g, o, sp⟩ := ad
                        simp only [Value.ownBlock, Option.some.injEq] at hk
                        subst hk
                        exact row_ge HROWx.out
                    have HO5 : Hid (OutL 8 w0 Ob ba bn bc N most w5 r mv made) := (HOx.out.below HB4.out).grown HG5.out (fun e => by have := hown _ e; omega) (by
                      cases hmv : mv.ownBlock with
                      | none => exact .inl rfl
                      | some k => exact .inr (fun e => by have := hown k e.symm; have := HMV.out k hmv; omega)) (fun k hk => by have := hown k hk; omega)
                    have HT5 : Hid (Turn Ob mv mv w w5) := (HTx.out.later (HB4.out.mono hwx)).later ((Below.refl w.heap.size _).grown HG5.out (Nat.le_trans hwx HB4.out.size) hown)
                    have HE : Hid (ls ++ List.replicate j (s) ++ [s] = ls ++ List.replicate (j + 1) (s)) := by show _ = _; rw [List.append_assoc, ← List.replicate_succ']
                    clear hown
                    go_wp2_with fail
                    exact ⟨⟨j + 1, a5, c5, by go_num, by omega, rfl, by rw [← HE.out]; exact HR5.out, HO5.out, HT5.out⟩, by simp [intOf]; omega⟩
                  · have hlti : ¬ (j : Int) < 1 := by omega
                    obtain rfl : j = 1 := by omega
                    have hlen2 : (ls ++ List.replicate (1) (s)).length = ls.length + (1) := by rw [List.length_append, List.length_replicate]
                    have HLEN2 := Lib.hid hlen2
                    have HROWy : Hid (Row64 wr w.heap.size (.slice a' (ls ++ List.replicate (1) (s)).length cp') (ls ++ List.replicate (1) (s)).length (ls ++ List.replicate (1) (s))) := by show Row64 _ _ _ _ _; rw [hlen2]; exact HROWx.out
                    have HV : Hid (Value.slice a' (ls.length + (1)) cp' = .slice a' (ls ++ List.replicate (1) (s)).length cp') := by show _ = _; rw [hlen2]
                    clear hlen2
                    go_wp2_with fail
                    exact ⟨⟨r, ls ++ List.replicate (1) (s), a', cp', HV.out, HROWy.out, HOx.out, HTx.out, by rw [HLEN2.out]; omega, fun y hy => by
                      rcases List.mem_append.1 hy with h | h
                      · exact HL15.out y h
                      · rw [(List.mem_replicate.1 h).2]; omega, HRES.out⟩, by simp [sizeV]; omega⟩
        --#END
      · have HT2 := Lib.hid (HTr.out.trans ht)
        have HRES : Hid (lensN N (8 * bn) c n p = .error k) := by
          show _ = _
          rw [HSr.out]
          exact lensAt_err hq8 HNL.out (one_err hr)
        clear hsign hgot hr ht
        go_wp2_with fail
        exact ⟨rfl, .inr ⟨k, HRES.out, rfl, HT2.out⟩⟩
    · have hendi : ¬ (ls.length : Int) < (n : Int) := by omega
      have HRES : Hid (lensN N (8 * bn) c n p = .ok (q, ls)) := by
        show _ = _
        rw [HSr.out]
        exact lensAt_end hq8 (by omega)
      go_wp2_with fail
      go_ret
      exact .inl ⟨q, ls, a, cp, HRES.out, rfl, HTr.out, HOr.out, HROW.out, HL15.out⟩
end Go.Proofs.YtglgchjkonjpiaaGreatDoor
