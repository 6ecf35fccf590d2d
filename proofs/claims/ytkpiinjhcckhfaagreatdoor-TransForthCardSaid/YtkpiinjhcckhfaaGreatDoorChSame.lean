/- The document's Same, of the same data twice: the walk. -/
import Derived.Test.YtkpiinjhcckhfaaGreatDoorChTo
import Derived.Laws.StructEq
namespace Go.Proofs.YtkpiinjhcckhfaaGreatDoor
open Go.RowKit Plain Go.ChangeShapes Go.WideShapes Go.ChangeAt Go.Great
set_option linter.unusedVariables false
set_option linter.unusedSimpArgs false
theorem eqFields_self (P : Program) (w : World) (d : Nat) (X : Array Value) : ∀ fs : List Field, (∀ f ∈ fs, f.name ≠ "_" ∧ ∃ v, (part f.type X f.offset).run P w = .ok v w ∧ (Op.equalIn d f.type v v).run P w = .ok true w) →
    (Op.eqFields d X X fs).run P w = .ok true w
  | [], _ => by simp [Op.eqFields]
  | f :: fs, h => by
    obtain ⟨hn, v, h1, h2⟩ := h f (by simp)
    have ih := eqFields_self P w d X fs fun g hg => h g (by simp [hg])
    simp only [Op.eqFields, hn, ne_eq, not_false_eq_true, if_true, Sem.run_bind, h1, h2, Result.andThen_ok]
    simpa using ih
theorem fields_rext : ∃ f1 f2, (Tryz.prog.fieldsOf 63).toList = [f1, f2] ∧ f1.name ≠ "_" ∧ f2.name ≠ "_" ∧ (f1.type = 9 ∧ f1.offset = 0) ∧ f2.type = 9 ∧ f2.offset = 1 := by
  have h : (Tryz.prog.fieldsOf 63).toList.map (fun f => (f.name == "_", f.type, f.offset)) = [(false, 9, 0), (false, 9, 1)] := by kernel_rfl
  generalize (Tryz.prog.fieldsOf 63).toList = l at *
  match l, h with
  | [], h => cases h
  | [_], h => simp at h
  | _ :: _ :: _ :: _, h => simp at h
  | [f1, f2], h =>
    simp only [List.map_cons, List.map_nil, List.cons.injEq, Prod.mk.injEq, and_true, beq_eq_false_iff_ne] at h
    exact ⟨f1, f2, rfl, h.1.1, h.2.1, h.1.2, h.2.2⟩
theorem part_strF (w : World) (X : Array Value) (o : Nat) (p : ByteArray) (h : X[o]? = some (.string p)) : (part 9 X o).run Tryz.prog w = .ok (.string p) w :=
  run_part_plain w (by kernel_rfl) h
set_option maxRecDepth 100000 in
theorem neq_ext (w : World) (x : ByteArray × ByteArray) : (binOp .neq 63 (.agg (extE x).toArray) (.agg (extE x).toArray)).run Tryz.prog w = .ok (.bool false) w := by
  obtain ⟨f1, f2, hf, n1, n2, ⟨t1, o1⟩, t2, o2⟩ := fields_rext
  have e : (Op.equalIn (9996 + 4) 63 (.agg (extE x).toArray) (.agg (extE x).toArray)).run Tryz.prog w = .ok true w := by
    rw [run_equalIn_struct w (9996 + 3) 63 _ _ Tryz.underlying63 (by kernel_rfl), hf]
    refine eqFields_self _ _ _ _ _ fun f hm => ?_
    simp only [List.mem_cons, List.not_mem_nil, or_false] at hm
    rcases hm with rfl | rfl
    · exact ⟨n1, .string x.1, by rw [t1, o1]; exact part_strF w _ 0 x.1 rfl, by rw [t1, run_equalIn_string w (9996 + 2) 9 x.1 x.1 Tryz.underlying9, beq_self_eq_true]⟩
    · exact ⟨n2, .string x.2, by rw [t2, o2]; exact part_strF w _ 1 x.2 rfl, by rw [t2, run_equalIn_string w (9996 + 2) 9 x.2 x.2 Tryz.underlying9, beq_self_eq_true]⟩
  rw [run_neq_struct]
  rw [show (9996 + 4 : Nat) = 10000 from rfl] at e
  rw [e]
  rfl
theorem guard_ext (x y : Operand) (u v : Array Value) (W : World) : (eqGuard .neq 63 x y (.agg u) (.agg v)).run Tryz.prog W = .ok () W := by
  simp [eqGuard]
theorem guard_a20 (x y : Operand) (u v : Array Value) (W : World) : (eqGuard .neq 22 x y (.agg u) (.agg v)).run Tryz.prog W = .ok () W := by
  simp [eqGuard]
theorem neq_a20 (w : World) (n : List Int) (h : n.length = 20) : (binOp .neq 22 (.agg (V8 n)) (.agg (V8 n))).run Tryz.prog w = .ok (.bool false) w := by
  rw [run_neq_struct, run_equalIn_arr w 22 20 Tryz.underlying22 n n h h, beq_self_eq_true]
  rfl
set_option maxRecDepth 100000 in
set_option maxHeartbeats 16000000 in
theorem chsame_any (c : CX) (a1 : Option Addr) (c1 : Nat) (f1 : Option Addr) (d1 : Nat) (a2 : Option Addr) (c2 : Nat) (f2 : Option Addr) (d2 : Nat) (w : World) (h20 : c.n.length = 20) (hx1 : RowAt 2 extE w a1 c.xs) (hf1 : RowAt 1 strE w f1 c.fs) (hx2 : RowAt 2 extE w a2 c.xs) (hf2 : RowAt 1 strE w f2 c.fs) (hs : c.xs.length ≤ 100000) (hsf : c.fs.length ≤ 100000) :
    Calls Tryz.prog 14 #[.agg (chV c a1 c1 f1 d1), .agg (chV c a2 c2 f2 d2)] w fun e w' => e = .returned (.bool true) ∧ Below w.heap.size w w' := by
  have H20 := Lib.hid h20
  have HX1 := Lib.hid hx1
  have HX2 := Lib.hid hx2
  have HF1 := Lib.hid hf1
  have HF2 := Lib.hid hf2
  obtain ⟨n, hN⟩ : ∃ n, c.xs.length = n := ⟨_, rfl⟩
  obtain ⟨fn, hFN⟩ : ∃ n, c.fs.length = n := ⟨_, rfl⟩
  have HN := Lib.hid hN
  have HFN := Lib.hid hFN
  have HNB : Hid (n ≤ 100000) := by rw [← hN]; exact hs
  have HFB : Hid (fn ≤ 100000) := by rw [← hFN]; exact hsf
  unfold chV
  rw [hN, hFN]
  have HB0 : Hid (Below w.heap.size w ((w.alloc (.cells (chA c (.slice a1 n c1) (.slice f1 fn d1)) 49)).alloc (.cells (chA c (.slice a2 n c2) (.slice f2 fn d2)) 49))) := ((Below.refl _ _).alloc (Nat.le_refl _) _).alloc (by simp) _
  have HP0 : Hid (((w.alloc (.cells (chA c (.slice a1 n c1) (.slice f1 fn d1)) 49)).alloc (.cells (chA c (.slice a2 n c2) (.slice f2 fn d2)) 49)).heap[w.heap.size]? = some (.cells (chA c (.slice a1 n c1) (.slice f1 fn d1)) 49 (0, 0))) := (Below.heap_alloc _ _ _ (by simp)).trans (heap_alloc_new _ _)
  have HP1 : Hid (((w.alloc (.cells (chA c (.slice a1 n c1) (.slice f1 fn d1)) 49)).alloc (.cells (chA c (.slice a2 n c2) (.slice f2 fn d2)) 49)).heap[w.heap.size + 1]? = some (.cells (chA c (.slice a2 n c2) (.slice f2 fn d2)) 49 (0, 0))) := by
    have h1 := heap_alloc_new (w.alloc (.cells (chA c (.slice a1 n c1) (.slice f1 fn d1)) 49)) (.cells (chA c (.slice a2 n c2) (.slice f2 fn d2)) 49)
    rw [show (w.alloc (.cells (chA c (.slice a1 n c1) (.slice f1 fn d1)) 49)).heap.size = w.heap.size + 1 by simp] at h1
    exact h1
  clear hN hFN h20 hx1 hx2 hf1 hf2 hs hsf
  have HRA := Lib.hid (ChRow.of HP0.out H20.out)
  have HRB := Lib.hid (ChRow.of HP1.out H20.out)
  have g1 := HRA.out.user
  have g2 := HRB.out.user
  have g3 := HRA.out.time
  have g4 := HRB.out.time
  have g5 := HRA.out.zone
  have g6 := HRB.out.zone
  have g7 := HRA.out.exts
  have g8 := HRB.out.exts
  have g9 := HRA.out.files
  have g10 := HRB.out.files
  have g11 := HRA.out.desc
  have g12 := HRB.out.desc
  have HNU := Lib.hid (neq_self c.u)
  have HND := Lib.hid (neq_self c.d)
  have HNA := Lib.hid (fun W => neq_a20 W c.n H20.out)
  go_enter Tryz.func14, Tryz.ntmps14
  go_wp2_with (first
    | refine wpList_load_mid rfl 22 _ rfl w.heap.size 0 rfl (U8 c.n) _ HRA.out.id Tryz.underlying22 rfl (id20_infoL _ H20.out) ?_
    | refine wpList_load_mid rfl 22 _ rfl (w.heap.size + 1) 0 rfl (U8 c.n) _ HRB.out.id Tryz.underlying22 rfl (id20_infoL _ H20.out) ?_
    | refine wpList_eql (by rfl) .neq 22 _ _ _ rfl (.agg (V8 c.n)) (.agg (V8 c.n)) rfl rfl (.bool false) (guard_a20 _ _ _ _) HNA.out ?_
    | refine wpList_eql (by rfl) .neq 9 _ _ _ rfl (.string c.u) (.string c.u) rfl rfl (.bool false) (guard_strn _ _ _ _) HNU.out ?_
    | refine wpList_eql (by rfl) .neq 9 _ _ _ rfl (.string c.d) (.string c.d) rfl rfl (.bool false) (guard_strn _ _ _ _) HND.out ?_)
  clear g1 g2 g3 g4 g5 g6 g7 g8 g9 g10 g11 g12 HNU HND HNA HRA HRB
  obtain ⟨w0, hw0⟩ : ∃ W, (w.alloc (.cells (chA c (.slice a1 n c1) (.slice f1 fn d1)) 49)).alloc (.cells (chA c (.slice a2 n c2) (.slice f2 fn d2)) 49) = W := ⟨_, rfl⟩
  rw [hw0] at HB0 HP0 HP1 ⊢
  clear hw0
  obtain ⟨p0, hp0⟩ : ∃ b, w.heap.size = b := ⟨_, rfl⟩
  have HPE := Lib.hid hp0
  rw [hp0] at HP0 HP1 ⊢
  obtain ⟨p1, hp1⟩ : ∃ b, p0 + 1 = b := ⟨_, rfl⟩
  rw [hp1] at HP1 ⊢
  clear hp0 hp1
  have HC : Hid (∀ W, Below w0.heap.size w0 W → ChRow W p0 c (.slice a1 n c1) (.slice f1 fn d1) ∧ ChRow W p1 c (.slice a2 n c2) (.slice f2 fn d2)) := fun W hW => ⟨ChRow.of ((hW.block p0 (Array.getElem?_eq_some_iff.1 HP0.out).1).trans HP0.out) H20.out, ChRow.of ((hW.block p1 (Array.getElem?_eq_some_iff.1 HP1.out).1).trans HP1.out) H20.out⟩
  have HWW : Hid (∀ W, Below w0.heap.size w0 W → Below w.heap.size w W) := fun W hW => HB0.out.trans (hW.mono HB0.out.size)
  go_loopw [5] (fun i wr => ∃ k : Nat, k ≤ n ∧ i = .int .i64 (k : Int) ∧ Below w0.heap.size w0 wr) (fun i _ => n - (intOf i).toNat)
  case atStart => exact ⟨0, Nat.zero_le _, rfl, Below.refl _ _⟩
  case round =>
    rename World => wr
    obtain ⟨k, hkn, rfl, hb⟩ := hrel
    have HB := Lib.hid hb
    have WK := Lib.hid (next_int k (by have := HNB.out; omega))
    have hcc := HC.out wr hb
    have hq1 := hcc.1.exts
    clear hb hcc
    by_cases h1 : k = n
    · subst h1
      clear hkn
      obtain ⟨w4, hw4⟩ : ∃ W, wr = W := ⟨_, rfl⟩
      rw [hw4] at HB hq1 ⊢
      clear hw4
      go_wp2_with fail
      clear hq1
      go_loopw [6] (fun i wr => ∃ k : Nat, k ≤ fn ∧ i = .int .i64 (k : Int) ∧ Below w0.heap.size w0 wr) (fun i _ => fn - (intOf i).toNat)
      case atStart => exact ⟨0, Nat.zero_le _, rfl, HB.out⟩
      case round =>
        rename World => wr
        obtain ⟨k, hkn, rfl, hb⟩ := hrel
        have HB := Lib.hid hb
        have WK := Lib.hid (next_int k (by have := HFB.out; omega))
        have hcc := HC.out wr hb
        have hq1 := hcc.1.files
        clear hb hcc
        by_cases h1 : k = fn
        · subst h1
          go_wp2_with fail
          go_ret
          exact ⟨rfl, HWW.out _ HB.out⟩
        · have hki : (k : Int) < (fn : Int) := by omega
          have HK1 : Hid (k + 1 ≤ fn) := by show _ ≤ _; omega
          obtain ⟨x, hp⟩ : ∃ x, c.fs[k]? = some x := ⟨_, List.getElem?_eq_getElem (by rw [HFN.out]; omega)⟩
          rcases HF1.out with h0 | ⟨b, off, rfl, hbl, hc⟩
          · rw [HFN.out] at h0; omega
          rcases HF2.out with h0 | ⟨b2, off2, rfl, hbl2, hc2⟩
          · rw [HFN.out] at h0; omega
          have HBD : Hid (Below w0.heap.size w0 wr.drew) := HB.out.drew
          have HR1 : Hid (wr.drew.rangeAt b (off + k * 1) (strE x)) := range_below (hc k x hp) (HWW.out _ HBD.out) hbl
          have HR2 : Hid (wr.drew.rangeAt b2 (off2 + k * 1) (strE x)) := range_below (hc2 k x hp) (HWW.out _ HBD.out) hbl2
          have HQ1 := Lib.hid (HC.out _ HBD.out).1.files
          have HQ2 := Lib.hid (HC.out _ HBD.out).2.files
          have HJ1 : Hid (off + k = off + k * 1) := by show _ = _; omega
          have HJ2 : Hid (off2 + k = off2 + k * 1) := by show _ = _; omega
          clear hp hbl hc hbl2 hc2 hkn h1
          go_wp2_with fail
          refine wp_region_noPanic ?_
          refine wp_region_held_drew (S := fun W => (W.cell? ⟨p0, 24, none⟩ = some (.slice (some ⟨b, off, none⟩) fn d1) ∧ W.cell? ⟨p1, 24, none⟩ = some (.slice (some ⟨b2, off2, none⟩) fn d2)) ∧ (W.rangeAt b (off + k * 1) (strE x) ∧ W.rangeAt b2 (off2 + k * 1) (strE x))) (by kernel_rfl) ?_ (fun hHeld => ?_)
          · exact ⟨⟨HQ1.out, HQ2.out⟩, HR1.out, HR2.out⟩
          refine wpAnyH_take (i := 0) (v := ?_) (by simp only [List.getElem?_toArray, List.getElem?_cons_zero]; rfl) (by kernel_rfl) (by kernel_rfl) (by kernel_rfl) (fun _ _ _ h => h) (Or.inl ⟨by rfl, ?_⟩) (by assumption) ?_
          rotate_left
          · intro W hSW
            go_simp
            try with_reducible rfl
          try simp only [Act.put, List.setIfInBounds_toArray, List.set_cons_zero, List.set_cons_succ]
          refine wpAnyH_take (i := 1) (by simp only [List.getElem?_toArray, List.getElem?_cons_succ, List.getElem?_cons_zero]; rfl) (by kernel_rfl) (by kernel_rfl) (by kernel_rfl) (fun _ _ _ h => h) (yieldsIf_load_sl (by rfl) 38 _ rfl p0 24 rfl (.slice (some ⟨b, off, none⟩) fn d1) (fun W hSW => hSW.1.1) Tryz.underlying38) (by assumption) ?_
          try simp only [Act.put, List.setIfInBounds_toArray, List.set_cons_zero, List.set_cons_succ]
          refine wpAnyH_take (i := 2) (v := ?_) (by simp only [List.getElem?_toArray, List.getElem?_cons_succ, List.getElem?_cons_zero]; rfl) (by kernel_rfl) (by kernel_rfl) (by kernel_rfl) (fun _ _ _ h => h) (Or.inl ⟨by rfl, ?_⟩) (by assumption) ?_
          rotate_left
          · intro W hSW
            go_simp
            try with_reducible rfl
          try simp only [Act.put, List.setIfInBounds_toArray, List.set_cons_zero, List.set_cons_succ]
          refine wpAnyH_take (i := 3) (v := ?_) (by simp only [List.getElem?_toArray, List.getElem?_cons_succ, List.getElem?_cons_zero]; rfl) (by kernel_rfl) (by kernel_rfl) (by kernel_rfl) (fun _ _ _ h => h) (Or.inl ⟨by rfl, ?_⟩) (by assumption) ?_
          rotate_left
          · intro W hSW
            go_simp
            try with_reducible rfl
          try simp only [Act.put, List.setIfInBounds_toArray, List.set_cons_zero, List.set_cons_succ]
          try rw [HJ1.out]
          refine wpAnyH_take (i := 4) (by simp only [List.getElem?_toArray, List.getElem?_cons_succ, List.getElem?_cons_zero]; rfl) (by kernel_rfl) (by kernel_rfl) (by kernel_rfl) (fun _ _ _ h => h) (yieldsIf_load_str (by rfl) 9 _ rfl b (off + k * 1) rfl x (fun W hSW => range_str hSW.2.1) Tryz.underlying9) (by assumption) ?_
          try simp only [Act.put, List.setIfInBounds_toArray, List.set_cons_zero, List.set_cons_succ]
          refine wpAnyH_take (i := 5) (v := ?_) (by simp only [List.getElem?_toArray, List.getElem?_cons_succ, List.getElem?_cons_zero]; rfl) (by kernel_rfl) (by kernel_rfl) (by kernel_rfl) (fun _ _ _ h => h) (Or.inl ⟨by rfl, ?_⟩) (by assumption) ?_
          rotate_left
          · intro W hSW
            go_simp
            try with_reducible rfl
          try simp only [Act.put, List.setIfInBounds_toArray, List.set_cons_zero, List.set_cons_succ]
          refine wpAnyH_take (i := 6) (by simp only [List.getElem?_toArray, List.getElem?_cons_succ, List.getElem?_cons_zero]; rfl) (by kernel_rfl) (by kernel_rfl) (by kernel_rfl) (fun _ _ _ h => h) (yieldsIf_load_sl (by rfl) 38 _ rfl p1 24 rfl (.slice (some ⟨b2, off2, none⟩) fn d2) (fun W hSW => hSW.1.2) Tryz.underlying38) (by assumption) ?_
          try simp only [Act.put, List.setIfInBounds_toArray, List.set_cons_zero, List.set_cons_succ]
          refine wpAnyH_take (i := 7) (v := ?_) (by simp only [List.getElem?_toArray, List.getElem?_cons_succ, List.getElem?_cons_zero]; rfl) (by kernel_rfl) (by kernel_rfl) (by kernel_rfl) (fun _ _ _ h => h) (Or.inl ⟨by rfl, ?_⟩) (by assumption) ?_
          rotate_left
          · intro W hSW
            go_simp
            try with_reducible rfl
          try simp only [Act.put, List.setIfInBounds_toArray, List.set_cons_zero, List.set_cons_succ]
          refine wpAnyH_take (i := 8) (v := ?_) (by simp only [List.getElem?_toArray, List.getElem?_cons_succ, List.getElem?_cons_zero]; rfl) (by kernel_rfl) (by kernel_rfl) (by kernel_rfl) (fun _ _ _ h => h) (Or.inl ⟨by rfl, ?_⟩) (by assumption) ?_
          rotate_left
          · intro W hSW
            go_simp
            try with_reducible rfl
          try simp only [Act.put, List.setIfInBounds_toArray, List.set_cons_zero, List.set_cons_succ]
          try rw [HJ2.out]
          refine wpAnyH_take (i := 9) (by simp only [List.getElem?_toArray, List.getElem?_cons_succ, List.getElem?_cons_zero]; rfl) (by kernel_rfl) (by kernel_rfl) (by kernel_rfl) (fun _ _ _ h => h) (yieldsIf_load_str (by rfl) 9 _ rfl b2 (off2 + k * 1) rfl x (fun W hSW => range_str hSW.2.2) Tryz.underlying9) (by assumption) ?_
          try simp only [Act.put, List.setIfInBounds_toArray, List.set_cons_zero, List.set_cons_succ]
          refine wpAnyH_take (i := 10) (by simp only [List.getElem?_toArray, List.getElem?_cons_succ, List.getElem?_cons_zero]; rfl) (by kernel_rfl) (by kernel_rfl) (by kernel_rfl) (fun _ _ _ h => h) (yieldsIf_eql (by rfl) .neq 9 _ _ _ rfl (.string x) (.string x) rfl rfl (.bool false) (guard_strn _ _ _ _) (neq_self x)) (by assumption) ?_
          try simp only [Act.put, List.setIfInBounds_toArray, List.set_cons_zero, List.set_cons_succ]
          refine wpAnyH_done (by kernel_rfl) ?_ _
          refine NoPanic.normal ?_
          clear hHeld
          go_wp2_with fail
          try rw [WK.out ((k : Int) + 1) rfl]
          exact ⟨⟨k + 1, HK1.out, rfl, HBD.out⟩, by simp [intOf]; have := HK1.out; omega⟩
    · have hki : (k : Int) < (n : Int) := by omega
      have HK1 : Hid (k + 1 ≤ n) := by show _ ≤ _; omega
      obtain ⟨x, hp⟩ : ∃ x, c.xs[k]? = some x := ⟨_, List.getElem?_eq_getElem (by rw [HN.out]; omega)⟩
      rcases HX1.out with h0 | ⟨b, off, rfl, hbl, hc⟩
      · rw [HN.out] at h0; omega
      rcases HX2.out with h0 | ⟨b2, off2, rfl, hbl2, hc2⟩
      · rw [HN.out] at h0; omega
      have HBD : Hid (Below w0.heap.size w0 wr.drew) := HB.out.drew
      have HR1 : Hid (wr.drew.rangeAt b (off + k * 2) (extE x)) := range_below (hc k x hp) (HWW.out _ HBD.out) hbl
      have HR2 : Hid (wr.drew.rangeAt b2 (off2 + k * 2) (extE x)) := range_below (hc2 k x hp) (HWW.out _ HBD.out) hbl2
      have HQ1 := Lib.hid (HC.out _ HBD.out).1.exts
      have HQ2 := Lib.hid (HC.out _ HBD.out).2.exts
      clear hp hbl hc hbl2 hc2 hkn h1
      go_wp2_with fail
      refine wp_region_noPanic ?_
      refine wp_region_held_drew (S := fun W => (W.cell? ⟨p0, 23, none⟩ = some (.slice (some ⟨b, off, none⟩) n c1) ∧ W.cell? ⟨p1, 23, none⟩ = some (.slice (some ⟨b2, off2, none⟩) n c2)) ∧ (W.rangeAt b (off + k * 2) (extE x) ∧ W.rangeAt b2 (off2 + k * 2) (extE x))) (by kernel_rfl) ?_ (fun hHeld => ?_)
      · exact ⟨⟨HQ1.out, HQ2.out⟩, HR1.out, HR2.out⟩
      refine wpAnyH_take (i := 0) (v := ?_) (by simp only [List.getElem?_toArray, List.getElem?_cons_zero]; rfl) (by kernel_rfl) (by kernel_rfl) (by kernel_rfl) (fun _ _ _ h => h) (Or.inl ⟨by rfl, ?_⟩) (by assumption) ?_
      rotate_left
      · intro W hSW
        go_simp
        try with_reducible rfl
      try simp only [Act.put, List.setIfInBounds_toArray, List.set_cons_zero, List.set_cons_succ]
      refine wpAnyH_take (i := 1) (by simp only [List.getElem?_toArray, List.getElem?_cons_succ, List.getElem?_cons_zero]; rfl) (by kernel_rfl) (by kernel_rfl) (by kernel_rfl) (fun _ _ _ h => h) (yieldsIf_load_sl (by rfl) 47 _ rfl p0 23 rfl (.slice (some ⟨b, off, none⟩) n c1) (fun W hSW => hSW.1.1) Tryz.underlying47) (by assumption) ?_
      try simp only [Act.put, List.setIfInBounds_toArray, List.set_cons_zero, List.set_cons_succ]
      refine wpAnyH_take (i := 2) (v := ?_) (by simp only [List.getElem?_toArray, List.getElem?_cons_succ, List.getElem?_cons_zero]; rfl) (by kernel_rfl) (by kernel_rfl) (by kernel_rfl) (fun _ _ _ h => h) (Or.inl ⟨by rfl, ?_⟩) (by assumption) ?_
      rotate_left
      · intro W hSW
        go_simp
        try with_reducible rfl
      try simp only [Act.put, List.setIfInBounds_toArray, List.set_cons_zero, List.set_cons_succ]
      refine wpAnyH_take (i := 3) (v := ?_) (by simp only [List.getElem?_toArray, List.getElem?_cons_succ, List.getElem?_cons_zero]; rfl) (by kernel_rfl) (by kernel_rfl) (by kernel_rfl) (fun _ _ _ h => h) (Or.inl ⟨by rfl, ?_⟩) (by assumption) ?_
      rotate_left
      · intro W hSW
        go_simp
        try with_reducible rfl
      try simp only [Act.put, List.setIfInBounds_toArray, List.set_cons_zero, List.set_cons_succ]
      refine wpAnyH_take (i := 4) (by simp only [List.getElem?_toArray, List.getElem?_cons_succ, List.getElem?_cons_zero]; rfl) (by kernel_rfl) (by kernel_rfl) (by kernel_rfl) (fun _ _ _ h => h) (yieldsIf_load_mid (by rfl) 63 _ rfl b (off + k * 2) rfl (extE x) _ (fun W hSW => hSW.2.1) Tryz.underlying63 rfl (info_rext x)) (by assumption) ?_
      try simp only [Act.put, List.setIfInBounds_toArray, List.set_cons_zero, List.set_cons_succ]
      refine wpAnyH_take (i := 5) (v := ?_) (by simp only [List.getElem?_toArray, List.getElem?_cons_succ, List.getElem?_cons_zero]; rfl) (by kernel_rfl) (by kernel_rfl) (by kernel_rfl) (fun _ _ _ h => h) (Or.inl ⟨by rfl, ?_⟩) (by assumption) ?_
      rotate_left
      · intro W hSW
        go_simp
        try with_reducible rfl
      try simp only [Act.put, List.setIfInBounds_toArray, List.set_cons_zero, List.set_cons_succ]
      refine wpAnyH_take (i := 6) (by simp only [List.getElem?_toArray, List.getElem?_cons_succ, List.getElem?_cons_zero]; rfl) (by kernel_rfl) (by kernel_rfl) (by kernel_rfl) (fun _ _ _ h => h) (yieldsIf_load_sl (by rfl) 47 _ rfl p1 23 rfl (.slice (some ⟨b2, off2, none⟩) n c2) (fun W hSW => hSW.1.2) Tryz.underlying47) (by assumption) ?_
      try simp only [Act.put, List.setIfInBounds_toArray, List.set_cons_zero, List.set_cons_succ]
      refine wpAnyH_take (i := 7) (v := ?_) (by simp only [List.getElem?_toArray, List.getElem?_cons_succ, List.getElem?_cons_zero]; rfl) (by kernel_rfl) (by kernel_rfl) (by kernel_rfl) (fun _ _ _ h => h) (Or.inl ⟨by rfl, ?_⟩) (by assumption) ?_
      rotate_left
      · intro W hSW
        go_simp
        try with_reducible rfl
      try simp only [Act.put, List.setIfInBounds_toArray, List.set_cons_zero, List.set_cons_succ]
      refine wpAnyH_take (i := 8) (v := ?_) (by simp only [List.getElem?_toArray, List.getElem?_cons_succ, List.getElem?_cons_zero]; rfl) (by kernel_rfl) (by kernel_rfl) (by kernel_rfl) (fun _ _ _ h => h) (Or.inl ⟨by rfl, ?_⟩) (by assumption) ?_
      rotate_left
      · intro W hSW
        go_simp
        try with_reducible rfl
      try simp only [Act.put, List.setIfInBounds_toArray, List.set_cons_zero, List.set_cons_succ]
      refine wpAnyH_take (i := 9) (by simp only [List.getElem?_toArray, List.getElem?_cons_succ, List.getElem?_cons_zero]; rfl) (by kernel_rfl) (by kernel_rfl) (by kernel_rfl) (fun _ _ _ h => h) (yieldsIf_load_mid (by rfl) 63 _ rfl b2 (off2 + k * 2) rfl (extE x) _ (fun W hSW => hSW.2.2) Tryz.underlying63 rfl (info_rext x)) (by assumption) ?_
      try simp only [Act.put, List.setIfInBounds_toArray, List.set_cons_zero, List.set_cons_succ]
      refine wpAnyH_take (i := 10) (by simp only [List.getElem?_toArray, List.getElem?_cons_succ, List.getElem?_cons_zero]; rfl) (by kernel_rfl) (by kernel_rfl) (by kernel_rfl) (fun _ _ _ h => h) (yieldsIf_eql (by rfl) .neq 63 _ _ _ rfl (.agg (extE x).toArray) (.agg (extE x).toArray) rfl rfl (.bool false) (fun W => guard_ext _ _ _ _ W) (fun W => neq_ext W x)) (by assumption) ?_
      try simp only [Act.put, List.setIfInBounds_toArray, List.set_cons_zero, List.set_cons_succ]
      refine wpAnyH_done (by kernel_rfl) ?_ _
      refine NoPanic.normal ?_
      clear hHeld
      go_wp2_with fail
      try rw [WK.out ((k : Int) + 1) rfl]
      exact ⟨⟨k + 1, HK1.out, rfl, HBD.out⟩, by simp [intOf]; have := HK1.out; omega⟩
end Go.Proofs.YtkpiinjhcckhfaaGreatDoor
