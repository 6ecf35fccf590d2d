/- The document's Same, of the same data twice: the walk. -/
import Derived.Test.YtkpiinjhcckhfaaGreatDoorCoTo
import Derived.Test.YtkpiinjhcckhfaaGreatDoorChMake
import Derived.Test.YtkpiinjhcckhfaaGreatDoorChSame
namespace Go.Proofs.YtkpiinjhcckhfaaGreatDoor
open Go.RowKit Plain Go.ChangeShapes Go.WideShapes Go.ChangeAt Go.Great
set_option linter.unusedVariables false
set_option linter.unusedSimpArgs false
theorem fields_rcext : ∃ f1 f2, (Tryz.prog.fieldsOf 65).toList = [f1, f2] ∧ f1.name ≠ "_" ∧ f2.name ≠ "_" ∧ (f1.type = 9 ∧ f1.offset = 0) ∧ f2.type = 9 ∧ f2.offset = 1 := by
  have h : (Tryz.prog.fieldsOf 65).toList.map (fun f => (f.name == "_", f.type, f.offset)) = [(false, 9, 0), (false, 9, 1)] := by kernel_rfl
  generalize (Tryz.prog.fieldsOf 65).toList = l at *
  match l, h with
  | [], h => cases h
  | [_], h => simp at h
  | _ :: _ :: _ :: _, h => simp at h
  | [f1, f2], h =>
    simp only [List.map_cons, List.map_nil, List.cons.injEq, Prod.mk.injEq, and_true, beq_eq_false_iff_ne] at h
    exact ⟨f1, f2, rfl, h.1.1, h.2.1, h.1.2, h.2.2⟩
set_option maxRecDepth 100000 in
theorem neq_rcext (w : World) (x : ByteArray × ByteArray) : (binOp .neq 65 (.agg (extE x).toArray) (.agg (extE x).toArray)).run Tryz.prog w = .ok (.bool false) w := by
  obtain ⟨f1, f2, hf, n1, n2, ⟨t1, o1⟩, t2, o2⟩ := fields_rcext
  have e : (Op.equalIn (9996 + 4) 65 (.agg (extE x).toArray) (.agg (extE x).toArray)).run Tryz.prog w = .ok true w := by
    rw [run_equalIn_struct w (9996 + 3) 65 _ _ Tryz.underlying65 (by kernel_rfl), hf]
    refine eqFields_self _ _ _ _ _ fun f hm => ?_
    simp only [List.mem_cons, List.not_mem_nil, or_false] at hm
    rcases hm with rfl | rfl
    · exact ⟨n1, .string x.1, by rw [t1, o1]; exact part_strF w _ 0 x.1 rfl, by rw [t1, run_equalIn_string w (9996 + 2) 9 x.1 x.1 Tryz.underlying9, beq_self_eq_true]⟩
    · exact ⟨n2, .string x.2, by rw [t2, o2]; exact part_strF w _ 1 x.2 rfl, by rw [t2, run_equalIn_string w (9996 + 2) 9 x.2 x.2 Tryz.underlying9, beq_self_eq_true]⟩
  rw [run_neq_struct]
  rw [show (9996 + 4 : Nat) = 10000 from rfl] at e
  rw [e]
  rfl
theorem guard_rcext (x y : Operand) (u v : Array Value) (W : World) : (eqGuard .neq 65 x y (.agg u) (.agg v)).run Tryz.prog W = .ok () W := by
  simp [eqGuard]
set_option maxRecDepth 100000 in
set_option maxHeartbeats 16000000 in
theorem cosame_any (c : CC) (a1 : Option Addr) (c1 : Nat) (f1 : Option Addr) (d1 : Nat) (a2 : Option Addr) (c2 : Nat) (f2 : Option Addr) (d2 : Nat) (w : World) (h1 : CoAt w c a1 f1) (h2 : CoAt w c a2 f2) (hn : c.ps.length ≤ 100000) (hm : c.xs.length ≤ 100000) :
    Calls Tryz.prog 17 #[.agg (coV c a1 c1 f1 d1), .agg (coV c a2 c2 f2 d2)] w fun e w' => e = .returned (.bool true) ∧ Below w.heap.size w w' := by
  have H20 := Lib.hid h1.n20
  have HX1 := Lib.hid h1.pars
  have HX2 := Lib.hid h2.pars
  have HF1 := Lib.hid h1.exts
  have HF2 := Lib.hid h2.exts
  have HIDS : Hid (∀ p ∈ c.ps, p.length = 20) := fun p hp => (h1.ids p hp).1
  obtain ⟨n, hN⟩ : ∃ n, c.ps.length = n := ⟨_, rfl⟩
  obtain ⟨fn, hFN⟩ : ∃ n, c.xs.length = n := ⟨_, rfl⟩
  have HN := Lib.hid hN
  have HFN := Lib.hid hFN
  have HNB : Hid (n ≤ 100000) := by rw [← hN]; exact hn
  have HFB : Hid (fn ≤ 100000) := by rw [← hFN]; exact hm
  unfold coV
  rw [hN, hFN]
  have HB0 : Hid (Below w.heap.size w ((w.alloc (.cells (coA c (.slice a1 n c1) (.slice f1 fn d1)) 28)).alloc (.cells (coA c (.slice a2 n c2) (.slice f2 fn d2)) 28))) := ((Below.refl _ _).alloc (Nat.le_refl _) _).alloc (by simp) _
  have HP0 : Hid (((w.alloc (.cells (coA c (.slice a1 n c1) (.slice f1 fn d1)) 28)).alloc (.cells (coA c (.slice a2 n c2) (.slice f2 fn d2)) 28)).heap[w.heap.size]? = some (.cells (coA c (.slice a1 n c1) (.slice f1 fn d1)) 28 (0, 0))) := (Below.heap_alloc _ _ _ (by simp)).trans (heap_alloc_new _ _)
  have HP1 : Hid (((w.alloc (.cells (coA c (.slice a1 n c1) (.slice f1 fn d1)) 28)).alloc (.cells (coA c (.slice a2 n c2) (.slice f2 fn d2)) 28)).heap[w.heap.size + 1]? = some (.cells (coA c (.slice a2 n c2) (.slice f2 fn d2)) 28 (0, 0))) := by
    have h1 := heap_alloc_new (w.alloc (.cells (coA c (.slice a1 n c1) (.slice f1 fn d1)) 28)) (.cells (coA c (.slice a2 n c2) (.slice f2 fn d2)) 28)
    rw [show (w.alloc (.cells (coA c (.slice a1 n c1) (.slice f1 fn d1)) 28)).heap.size = w.heap.size + 1 by simp] at h1
    exact h1
  clear hN hFN h1 h2 hn hm
  have HRA := Lib.hid (CoRow.of HP0.out H20.out)
  have HRB := Lib.hid (CoRow.of HP1.out H20.out)
  have g1 := HRA.out.pars
  have g2 := HRB.out.pars
  have g3 := HRA.out.exts
  have g4 := HRB.out.exts
  have g5 := HRA.out.msg
  have g6 := HRB.out.msg
  have HND := Lib.hid (neq_self c.m)
  have HNA := Lib.hid (fun W => neq_a20 W c.tr H20.out)
  go_enter Tryz.func17, Tryz.ntmps17
  go_wp2_with (first
    | refine wpList_load_mid rfl 22 _ rfl w.heap.size 0 rfl (U8 c.tr) _ HRA.out.tree Tryz.underlying22 rfl (id20_info8 _ H20.out) ?_
    | refine wpList_load_mid rfl 22 _ rfl (w.heap.size + 1) 0 rfl (U8 c.tr) _ HRB.out.tree Tryz.underlying22 rfl (id20_info8 _ H20.out) ?_
    | refine wpList_load_mid_g rfl 25 _ rfl w.heap.size 21 rfl (whoL c.a) _ HRA.out.author Tryz.underlying25 rfl (info_rwhoL _) ?_
    | refine wpList_load_mid_g rfl 25 _ rfl (w.heap.size + 1) 21 rfl (whoL c.a) _ HRB.out.author Tryz.underlying25 rfl (info_rwhoL _) ?_
    | refine wpList_load_mid_g rfl 25 _ rfl w.heap.size 25 rfl (whoL c.c) _ HRA.out.committer Tryz.underlying25 rfl (info_rwhoL _) ?_
    | refine wpList_load_mid_g rfl 25 _ rfl (w.heap.size + 1) 25 rfl (whoL c.c) _ HRB.out.committer Tryz.underlying25 rfl (info_rwhoL _) ?_
    | refine wpList_eql (by rfl) .neq 22 _ _ _ rfl (.agg (V8 c.tr)) (.agg (V8 c.tr)) rfl rfl (.bool false) (guard_a20 _ _ _ _) HNA.out ?_
    | refine wpList_eql (by rfl) .neq 25 _ _ _ rfl (.agg (whoA c.a)) (.agg (whoA c.a)) rfl rfl (.bool false) (guardn_rwho _ _ _ _) (neq_rwho c.a) ?_
    | refine wpList_eql (by rfl) .neq 25 _ _ _ rfl (.agg (whoA c.c)) (.agg (whoA c.c)) rfl rfl (.bool false) (guardn_rwho _ _ _ _) (neq_rwho c.c) ?_
    | refine wpList_eql (by rfl) .neq 9 _ _ _ rfl (.string c.m) (.string c.m) rfl rfl (.bool false) (guard_strn _ _ _ _) HND.out ?_)
  clear g1 g2 g3 g4 g5 g6 HND HNA HRA HRB
  obtain ⟨w0, hw0⟩ : ∃ W, (w.alloc (.cells (coA c (.slice a1 n c1) (.slice f1 fn d1)) 28)).alloc (.cells (coA c (.slice a2 n c2) (.slice f2 fn d2)) 28) = W := ⟨_, rfl⟩
  rw [hw0] at HB0 HP0 HP1 ⊢
  clear hw0
  obtain ⟨p0, hp0⟩ : ∃ b, w.heap.size = b := ⟨_, rfl⟩
  have HPE := Lib.hid hp0
  rw [hp0] at HP0 HP1 ⊢
  obtain ⟨p1, hp1⟩ : ∃ b, p0 + 1 = b := ⟨_, rfl⟩
  rw [hp1] at HP1 ⊢
  clear hp0 hp1
  have HC : Hid (∀ W, Below w0.heap.size w0 W → CoRow W p0 c (.slice a1 n c1) (.slice f1 fn d1) ∧ CoRow W p1 c (.slice a2 n c2) (.slice f2 fn d2)) := fun W hW => ⟨CoRow.of ((hW.block p0 (Array.getElem?_eq_some_iff.1 HP0.out).1).trans HP0.out) H20.out, CoRow.of ((hW.block p1 (Array.getElem?_eq_some_iff.1 HP1.out).1).trans HP1.out) H20.out⟩
  have HWW : Hid (∀ W, Below w0.heap.size w0 W → Below w.heap.size w W) := fun W hW => HB0.out.trans (hW.mono HB0.out.size)
  go_loopw [5] (fun i wr => ∃ k : Nat, k ≤ n ∧ i = .int .i64 (k : Int) ∧ Below w0.heap.size w0 wr) (fun i _ => n - (intOf i).toNat)
  case atStart => exact ⟨0, Nat.zero_le _, rfl, Below.refl _ _⟩
  case round =>
    rename World => wr
    obtain ⟨k, hkn, rfl, hb⟩ := hrel
    have HB := Lib.hid hb
    have WK := Lib.hid (next_int k (by have := HNB.out; omega))
    have hcc := HC.out wr hb
    have hq1 := hcc.1.pars
    clear hb hcc
    by_cases h1 : k = n
    · subst h1
      clear hkn
      obtain ⟨w4, hw4⟩ : ∃ W, wr = W := ⟨_, rfl⟩
      rw [hw4] at HB hq1 ⊢
      clear hw4
      go_wp2_with fail
      clear hq1
      go_loopw [6] (fun i wr => ∃ k : Nat, k ≤ fn ∧ i = .int .i64 (k : Int) ∧ Below w0.heap.size w0 wr) (fun i _ => fn - (intOf i).toNat)
      case atStart => exact ⟨0, Nat.zero_le _, rfl, HB.out⟩
      case round =>
        rename World => wr
        obtain ⟨k, hkn, rfl, hb⟩ := hrel
        have HB := Lib.hid hb
        have WK := Lib.hid (next_int k (by have := HFB.out; omega))
        have hcc := HC.out wr hb
        have hq1 := hcc.1.exts
        clear hb hcc
        by_cases h1 : k = fn
        · subst h1
          go_wp2_with fail
          go_ret
          exact ⟨rfl, HWW.out _ HB.out⟩
        · skip
          have hki : (k : Int) < (fn : Int) := by omega
          have HK1 : Hid (k + 1 ≤ fn) := by show _ ≤ _; omega
          obtain ⟨x, hp⟩ : ∃ x, c.xs[k]? = some x := ⟨_, List.getElem?_eq_getElem (by rw [HFN.out]; omega)⟩
          rcases HF1.out with h0 | ⟨b, off, rfl, hbl, hc⟩
          · rw [HFN.out] at h0; omega
          rcases HF2.out with h0 | ⟨b2, off2, rfl, hbl2, hc2⟩
          · rw [HFN.out] at h0; omega
          have HBD : Hid (Below w0.heap.size w0 wr.drew) := HB.out.drew
          have HR1 : Hid (wr.drew.rangeAt b (off + k * 2) (extE x)) := range_below (hc k x hp) (HWW.out _ HBD.out) hbl
          have HR2 : Hid (wr.drew.rangeAt b2 (off2 + k * 2) (extE x)) := range_below (hc2 k x hp) (HWW.out _ HBD.out) hbl2
          have HQ1 := Lib.hid (HC.out _ HBD.out).1.exts
          have HQ2 := Lib.hid (HC.out _ HBD.out).2.exts
          clear hp hbl hc hbl2 hc2 hkn h1
          go_wp2_with fail
          refine wp_region_noPanic ?_
          refine wp_region_held_drew (S := fun W => (W.cell? ⟨p0, 29, none⟩ = some (.slice (some ⟨b, off, none⟩) fn d1) ∧ W.cell? ⟨p1, 29, none⟩ = some (.slice (some ⟨b2, off2, none⟩) fn d2)) ∧ (W.rangeAt b (off + k * 2) (extE x) ∧ W.rangeAt b2 (off2 + k * 2) (extE x))) (by kernel_rfl) ?_ (fun hHeld => ?_)
          · exact ⟨⟨HQ1.out, HQ2.out⟩, HR1.out, HR2.out⟩
          refine wpAnyH_take (i := 0) (v := ?_) (by simp only [List.getElem?_toArray, List.getElem?_cons_zero]; rfl) (by kernel_rfl) (by kernel_rfl) (by kernel_rfl) (fun _ _ _ h => h) (Or.inl ⟨by rfl, ?_⟩) (by assumption) ?_
          rotate_left
          · intro W hSW
            go_simp
            try with_reducible rfl
          try simp only [Act.put, List.setIfInBounds_toArray, List.set_cons_zero, List.set_cons_succ]
          refine wpAnyH_take (i := 1) (by simp only [List.getElem?_toArray, List.getElem?_cons_succ, List.getElem?_cons_zero]; rfl) (by kernel_rfl) (by kernel_rfl) (by kernel_rfl) (fun _ _ _ h => h) (yieldsIf_load_sl (by rfl) 26 _ rfl p0 29 rfl (.slice (some ⟨b, off, none⟩) fn d1) (fun W hSW => hSW.1.1) Tryz.underlying26) (by assumption) ?_
          try simp only [Act.put, List.setIfInBounds_toArray, List.set_cons_zero, List.set_cons_succ]
          refine wpAnyH_take (i := 2) (v := ?_) (by simp only [List.getElem?_toArray, List.getElem?_cons_succ, List.getElem?_cons_zero]; rfl) (by kernel_rfl) (by kernel_rfl) (by kernel_rfl) (fun _ _ _ h => h) (Or.inl ⟨by rfl, ?_⟩) (by assumption) ?_
          rotate_left
          · intro W hSW
            go_simp
            try with_reducible rfl
          try simp only [Act.put, List.setIfInBounds_toArray, List.set_cons_zero, List.set_cons_succ]
          refine wpAnyH_take (i := 3) (v := ?_) (by simp only [List.getElem?_toArray, List.getElem?_cons_succ, List.getElem?_cons_zero]; rfl) (by kernel_rfl) (by kernel_rfl) (by kernel_rfl) (fun _ _ _ h => h) (Or.inl ⟨by rfl, ?_⟩) (by assumption) ?_
          rotate_left
          · intro W hSW
            go_simp
            try with_reducible rfl
          try simp only [Act.put, List.setIfInBounds_toArray, List.set_cons_zero, List.set_cons_succ]
          refine wpAnyH_take (i := 4) (by simp only [List.getElem?_toArray, List.getElem?_cons_succ, List.getElem?_cons_zero]; rfl) (by kernel_rfl) (by kernel_rfl) (by kernel_rfl) (fun _ _ _ h => h) (yieldsIf_load_mid (by rfl) 65 _ rfl b (off + k * 2) rfl (extE x) _ (fun W hSW => hSW.2.1) Tryz.underlying65 rfl (info_rcext x)) (by assumption) ?_
          try simp only [Act.put, List.setIfInBounds_toArray, List.set_cons_zero, List.set_cons_succ]
          refine wpAnyH_take (i := 5) (v := ?_) (by simp only [List.getElem?_toArray, List.getElem?_cons_succ, List.getElem?_cons_zero]; rfl) (by kernel_rfl) (by kernel_rfl) (by kernel_rfl) (fun _ _ _ h => h) (Or.inl ⟨by rfl, ?_⟩) (by assumption) ?_
          rotate_left
          · intro W hSW
            go_simp
            try with_reducible rfl
          try simp only [Act.put, List.setIfInBounds_toArray, List.set_cons_zero, List.set_cons_succ]
          refine wpAnyH_take (i := 6) (by simp only [List.getElem?_toArray, List.getElem?_cons_succ, List.getElem?_cons_zero]; rfl) (by kernel_rfl) (by kernel_rfl) (by kernel_rfl) (fun _ _ _ h => h) (yieldsIf_load_sl (by rfl) 26 _ rfl p1 29 rfl (.slice (some ⟨b2, off2, none⟩) fn d2) (fun W hSW => hSW.1.2) Tryz.underlying26) (by assumption) ?_
          try simp only [Act.put, List.setIfInBounds_toArray, List.set_cons_zero, List.set_cons_succ]
          refine wpAnyH_take (i := 7) (v := ?_) (by simp only [List.getElem?_toArray, List.getElem?_cons_succ, List.getElem?_cons_zero]; rfl) (by kernel_rfl) (by kernel_rfl) (by kernel_rfl) (fun _ _ _ h => h) (Or.inl ⟨by rfl, ?_⟩) (by assumption) ?_
          rotate_left
          · intro W hSW
            go_simp
            try with_reducible rfl
          try simp only [Act.put, List.setIfInBounds_toArray, List.set_cons_zero, List.set_cons_succ]
          refine wpAnyH_take (i := 8) (v := ?_) (by simp only [List.getElem?_toArray, List.getElem?_cons_succ, List.getElem?_cons_zero]; rfl) (by kernel_rfl) (by kernel_rfl) (by kernel_rfl) (fun _ _ _ h => h) (Or.inl ⟨by rfl, ?_⟩) (by assumption) ?_
          rotate_left
          · intro W hSW
            go_simp
            try with_reducible rfl
          try simp only [Act.put, List.setIfInBounds_toArray, List.set_cons_zero, List.set_cons_succ]
          refine wpAnyH_take (i := 9) (by simp only [List.getElem?_toArray, List.getElem?_cons_succ, List.getElem?_cons_zero]; rfl) (by kernel_rfl) (by kernel_rfl) (by kernel_rfl) (fun _ _ _ h => h) (yieldsIf_load_mid (by rfl) 65 _ rfl b2 (off2 + k * 2) rfl (extE x) _ (fun W hSW => hSW.2.2) Tryz.underlying65 rfl (info_rcext x)) (by assumption) ?_
          try simp only [Act.put, List.setIfInBounds_toArray, List.set_cons_zero, List.set_cons_succ]
          refine wpAnyH_take (i := 10) (by simp only [List.getElem?_toArray, List.getElem?_cons_succ, List.getElem?_cons_zero]; rfl) (by kernel_rfl) (by kernel_rfl) (by kernel_rfl) (fun _ _ _ h => h) (yieldsIf_eql (by rfl) .neq 65 _ _ _ rfl (.agg (extE x).toArray) (.agg (extE x).toArray) rfl rfl (.bool false) (fun W => guard_rcext _ _ _ _ W) (fun W => neq_rcext W x)) (by assumption) ?_
          try simp only [Act.put, List.setIfInBounds_toArray, List.set_cons_zero, List.set_cons_succ]
          refine wpAnyH_done (by kernel_rfl) ?_ _
          refine NoPanic.normal ?_
          clear hHeld
          go_wp2_with fail
          try rw [WK.out ((k : Int) + 1) rfl]
          exact ⟨⟨k + 1, HK1.out, rfl, HBD.out⟩, by simp [intOf]; have := HK1.out; omega⟩
    · skip
      have hki : (k : Int) < (n : Int) := by omega
      have HK1 : Hid (k + 1 ≤ n) := by show _ ≤ _; omega
      obtain ⟨x, hp⟩ : ∃ x, c.ps[k]? = some x := ⟨_, List.getElem?_eq_getElem (by rw [HN.out]; omega)⟩
      rcases HX1.out with h0 | ⟨b, off, rfl, hbl, hc⟩
      · rw [HN.out] at h0; omega
      rcases HX2.out with h0 | ⟨b2, off2, rfl, hbl2, hc2⟩
      · rw [HN.out] at h0; omega
      have HBD : Hid (Below w0.heap.size w0 wr.drew) := HB.out.drew
      have HP20 : Hid (x.length = 20) := HIDS.out x (List.mem_of_getElem? hp)
      have HR1 : Hid (wr.drew.rangeAt b (off + k * 20) (U8 x)) := by
        have := range_below (hc k x hp) (HWW.out _ HBD.out) hbl
        rwa [idE_of HP20.out] at this
      have HR2 : Hid (wr.drew.rangeAt b2 (off2 + k * 20) (U8 x)) := by
        have := range_below (hc2 k x hp) (HWW.out _ HBD.out) hbl2
        rwa [idE_of HP20.out] at this
      have HQ1 := Lib.hid (HC.out _ HBD.out).1.pars
      have HQ2 := Lib.hid (HC.out _ HBD.out).2.pars
      clear hp hbl hc hbl2 hc2 hkn h1
      go_wp2_with fail
      refine wp_region_noPanic ?_
      refine wp_region_held_drew (S := fun W => (W.cell? ⟨p0, 20, none⟩ = some (.slice (some ⟨b, off, none⟩) n c1) ∧ W.cell? ⟨p1, 20, none⟩ = some (.slice (some ⟨b2, off2, none⟩) n c2)) ∧ (W.rangeAt b (off + k * 20) (U8 x) ∧ W.rangeAt b2 (off2 + k * 20) (U8 x))) (by kernel_rfl) ?_ (fun hHeld => ?_)
      · exact ⟨⟨HQ1.out, HQ2.out⟩, HR1.out, HR2.out⟩
      refine wpAnyH_take (i := 0) (v := ?_) (by simp only [List.getElem?_toArray, List.getElem?_cons_zero]; rfl) (by kernel_rfl) (by kernel_rfl) (by kernel_rfl) (fun _ _ _ h => h) (Or.inl ⟨by rfl, ?_⟩) (by assumption) ?_
      rotate_left
      · intro W hSW
        go_simp
        try with_reducible rfl
      try simp only [Act.put, List.setIfInBounds_toArray, List.set_cons_zero, List.set_cons_succ]
      refine wpAnyH_take (i := 1) (by simp only [List.getElem?_toArray, List.getElem?_cons_succ, List.getElem?_cons_zero]; rfl) (by kernel_rfl) (by kernel_rfl) (by kernel_rfl) (fun _ _ _ h => h) (yieldsIf_load_sl (by rfl) 23 _ rfl p0 20 rfl (.slice (some ⟨b, off, none⟩) n c1) (fun W hSW => hSW.1.1) Tryz.underlying23) (by assumption) ?_
      try simp only [Act.put, List.setIfInBounds_toArray, List.set_cons_zero, List.set_cons_succ]
      refine wpAnyH_take (i := 2) (v := ?_) (by simp only [List.getElem?_toArray, List.getElem?_cons_succ, List.getElem?_cons_zero]; rfl) (by kernel_rfl) (by kernel_rfl) (by kernel_rfl) (fun _ _ _ h => h) (Or.inl ⟨by rfl, ?_⟩) (by assumption) ?_
      rotate_left
      · intro W hSW
        go_simp
        try with_reducible rfl
      try simp only [Act.put, List.setIfInBounds_toArray, List.set_cons_zero, List.set_cons_succ]
      refine wpAnyH_take (i := 3) (v := ?_) (by simp only [List.getElem?_toArray, List.getElem?_cons_succ, List.getElem?_cons_zero]; rfl) (by kernel_rfl) (by kernel_rfl) (by kernel_rfl) (fun _ _ _ h => h) (Or.inl ⟨by rfl, ?_⟩) (by assumption) ?_
      rotate_left
      · intro W hSW
        go_simp
        try with_reducible rfl
      try simp only [Act.put, List.setIfInBounds_toArray, List.set_cons_zero, List.set_cons_succ]
      refine wpAnyH_take (i := 4) (by simp only [List.getElem?_toArray, List.getElem?_cons_succ, List.getElem?_cons_zero]; rfl) (by kernel_rfl) (by kernel_rfl) (by kernel_rfl) (fun _ _ _ h => h) (yieldsIf_load_mid (by rfl) 22 _ rfl b (off + k * 20) rfl (U8 x) (.array 20 5) (fun W hSW => hSW.2.1) Tryz.underlying22 rfl (id20_info8 x HP20.out)) (by assumption) ?_
      try simp only [Act.put, List.setIfInBounds_toArray, List.set_cons_zero, List.set_cons_succ]
      refine wpAnyH_take (i := 5) (v := ?_) (by simp only [List.getElem?_toArray, List.getElem?_cons_succ, List.getElem?_cons_zero]; rfl) (by kernel_rfl) (by kernel_rfl) (by kernel_rfl) (fun _ _ _ h => h) (Or.inl ⟨by rfl, ?_⟩) (by assumption) ?_
      rotate_left
      · intro W hSW
        go_simp
        try with_reducible rfl
      try simp only [Act.put, List.setIfInBounds_toArray, List.set_cons_zero, List.set_cons_succ]
      refine wpAnyH_take (i := 6) (by simp only [List.getElem?_toArray, List.getElem?_cons_succ, List.getElem?_cons_zero]; rfl) (by kernel_rfl) (by kernel_rfl) (by kernel_rfl) (fun _ _ _ h => h) (yieldsIf_load_sl (by rfl) 23 _ rfl p1 20 rfl (.slice (some ⟨b2, off2, none⟩) n c2) (fun W hSW => hSW.1.2) Tryz.underlying23) (by assumption) ?_
      try simp only [Act.put, List.setIfInBounds_toArray, List.set_cons_zero, List.set_cons_succ]
      refine wpAnyH_take (i := 7) (v := ?_) (by simp only [List.getElem?_toArray, List.getElem?_cons_succ, List.getElem?_cons_zero]; rfl) (by kernel_rfl) (by kernel_rfl) (by kernel_rfl) (fun _ _ _ h => h) (Or.inl ⟨by rfl, ?_⟩) (by assumption) ?_
      rotate_left
      · intro W hSW
        go_simp
        try with_reducible rfl
      try simp only [Act.put, List.setIfInBounds_toArray, List.set_cons_zero, List.set_cons_succ]
      refine wpAnyH_take (i := 8) (v := ?_) (by simp only [List.getElem?_toArray, List.getElem?_cons_succ, List.getElem?_cons_zero]; rfl) (by kernel_rfl) (by kernel_rfl) (by kernel_rfl) (fun _ _ _ h => h) (Or.inl ⟨by rfl, ?_⟩) (by assumption) ?_
      rotate_left
      · intro W hSW
        go_simp
        try with_reducible rfl
      try simp only [Act.put, List.setIfInBounds_toArray, List.set_cons_zero, List.set_cons_succ]
      refine wpAnyH_take (i := 9) (by simp only [List.getElem?_toArray, List.getElem?_cons_succ, List.getElem?_cons_zero]; rfl) (by kernel_rfl) (by kernel_rfl) (by kernel_rfl) (fun _ _ _ h => h) (yieldsIf_load_mid (by rfl) 22 _ rfl b2 (off2 + k * 20) rfl (U8 x) (.array 20 5) (fun W hSW => hSW.2.2) Tryz.underlying22 rfl (id20_info8 x HP20.out)) (by assumption) ?_
      try simp only [Act.put, List.setIfInBounds_toArray, List.set_cons_zero, List.set_cons_succ]
      refine wpAnyH_take (i := 10) (by simp only [List.getElem?_toArray, List.getElem?_cons_succ, List.getElem?_cons_zero]; rfl) (by kernel_rfl) (by kernel_rfl) (by kernel_rfl) (fun _ _ _ h => h) (yieldsIf_eql (by rfl) .neq 22 _ _ _ rfl (.agg (V8 x)) (.agg (V8 x)) rfl rfl (.bool false) (guard_a20 _ _ _ _) (fun W => neq_a20 W x HP20.out)) (by assumption) ?_
      try simp only [Act.put, List.setIfInBounds_toArray, List.set_cons_zero, List.set_cons_succ]
      refine wpAnyH_done (by kernel_rfl) ?_ _
      refine NoPanic.normal ?_
      clear hHeld
      go_wp2_with fail
      try rw [WK.out ((k : Int) + 1) rfl]
      exact ⟨⟨k + 1, HK1.out, rfl, HBD.out⟩, by simp [intOf]; have := HK1.out; omega⟩
end Go.Proofs.YtkpiinjhcckhfaaGreatDoor
