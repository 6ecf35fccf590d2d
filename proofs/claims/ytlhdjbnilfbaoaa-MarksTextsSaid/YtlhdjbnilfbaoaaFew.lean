/- Rows of pairs, one more; at most forty; the document's pairs and the program's: the walks. -/
import Derived.Test.YtlhdjbnilfbaoaaFirst
import Derived.Deep.RegionHeld3
namespace Go.Proofs.Ytlhdjbnilfbaoaa
open Go.RowKit
set_option linter.unusedVariables false
theorem parts : ∃ i, Try.prog.info? 46 = some i ∧ i.zero = some (.agg (V8 noPair)) ∧ i.size = 40 ∧ i.bytes = 40 := by
  have h : (Try.prog.info? 46).map (fun i => (i.zero, i.size, i.bytes)) = some (some (.agg (V8 noPair)), 40, 40) := by kernel_rfl
  obtain ⟨i, hi, he⟩ := Option.map_eq_some_iff.1 h
  simp only [Prod.mk.injEq] at he
  exact ⟨i, hi, he⟩
/-- append(v, p): one pair more. -/
theorem step_append_pair {w : World} {ops : Array Oper} {o : Oper} {ac : Act} {K : Act → World → Prop} {Q : Exit → Act → World → Prop} {E : Prop} (hgd : o.guard = none) (s x : Operand)
    (ho : o.op = .call { callee := .builtin .append, args := #[s, x], argTypes := #[24, 24] })
    (base : Nat) (v : Value) (ps : List (List Int)) (n : Nat) (hn : ps.length = n) (hs : ac.eval s = v) (hown : OwnP 46 w base v ps) (g0 : Nat) (p : List Int) (hp : p.length = 40) (hx : ac.eval x = .slice (some ⟨g0, 0, none⟩) 1 1) (hy : w.rangeAt g0 0 (U8 p))
    (hsum : n + 1 ≤ 1000001) (hbase : base ≤ w.heap.size)
    (h : ∀ g c w', OwnP 46 w' base (.slice (some ⟨g, 0, none⟩) (n + 1) c) (ps ++ [p]) → w.grownBy w' v.ownBlock → (v.ownBlock = some g ∨ g = w.heap.size) → g < w'.heap.size → K (ac.put o.dst (.slice (some ⟨g, 0, none⟩) (n + 1) c)) w') :
    if Region.wanted o (yielded ops ac.tmps) = true then Oper.wp Try.prog o ac w K Q else E := by
  obtain ⟨i, hi, hz, h1, h8⟩ := parts
  subst hn
  refine step_append_lies w hgd s x 24 ho base 46 i (.agg (V8 noPair)) 40 40 Try.underlying24 hi hz h1 h8 (by show (V8 noPair).size = 40; rw [V8_size, noPair_len]) (by omega) v ps.length _ hs hown.1 ⟨g0, 0, none⟩ 1 1 (U8 p) hx (by rw [U8_length, hp]) ?_ (U8_one p) (by omega) (by unfold maxLen; omega) (by omega) hbase _ rfl fun g c w' a1 a2 a3 a4 => ?_
  · intro j u hu
    rw [Addr.add_mid]
    exact hy j u hu
  · have e : flat ps ++ U8 p = flat (ps ++ [p]) := by rw [flat_append, flat_one]
    refine h g c w' ⟨?_, fun q hq => ?_⟩ a2 a3 a4
    · rw [← e, List.length_append, List.length_singleton]; exact a1
    · rcases List.mem_append.1 hq with hq | hq
      · exact hown.2 q hq
      · rw [List.mem_singleton.1 hq]; exact hp
theorem parts_r : ∃ i, Try.prog.info? 44 = some i ∧ i.zero = some (.agg (V8 noPair)) ∧ i.size = 40 ∧ i.bytes = 40 := by
  have h : (Try.prog.info? 44).map (fun i => (i.zero, i.size, i.bytes)) = some (some (.agg (V8 noPair)), 40, 40) := by kernel_rfl
  obtain ⟨i, hi, he⟩ := Option.map_eq_some_iff.1 h
  simp only [Prod.mk.injEq] at he
  exact ⟨i, hi, he⟩
/-- append(v, p): one pair more. -/
theorem step_append_pair_r {w : World} {ops : Array Oper} {o : Oper} {ac : Act} {K : Act → World → Prop} {Q : Exit → Act → World → Prop} {E : Prop} (hgd : o.guard = none) (s x : Operand)
    (ho : o.op = .call { callee := .builtin .append, args := #[s, x], argTypes := #[22, 22] })
    (base : Nat) (v : Value) (ps : List (List Int)) (n : Nat) (hn : ps.length = n) (hs : ac.eval s = v) (hown : OwnP 44 w base v ps) (g0 : Nat) (p : List Int) (hp : p.length = 40) (hx : ac.eval x = .slice (some ⟨g0, 0, none⟩) 1 1) (hy : w.rangeAt g0 0 (U8 p))
    (hsum : n + 1 ≤ 1000001) (hbase : base ≤ w.heap.size)
    (h : ∀ g c w', OwnP 44 w' base (.slice (some ⟨g, 0, none⟩) (n + 1) c) (ps ++ [p]) → w.grownBy w' v.ownBlock → (v.ownBlock = some g ∨ g = w.heap.size) → g < w'.heap.size → K (ac.put o.dst (.slice (some ⟨g, 0, none⟩) (n + 1) c)) w') :
    if Region.wanted o (yielded ops ac.tmps) = true then Oper.wp Try.prog o ac w K Q else E := by
  obtain ⟨i, hi, hz, h1, h8⟩ := parts_r
  subst hn
  refine step_append_lies w hgd s x 22 ho base 44 i (.agg (V8 noPair)) 40 40 Try.underlying22 hi hz h1 h8 (by show (V8 noPair).size = 40; rw [V8_size, noPair_len]) (by omega) v ps.length _ hs hown.1 ⟨g0, 0, none⟩ 1 1 (U8 p) hx (by rw [U8_length, hp]) ?_ (U8_one p) (by omega) (by unfold maxLen; omega) (by omega) hbase _ rfl fun g c w' a1 a2 a3 a4 => ?_
  · intro j u hu
    rw [Addr.add_mid]
    exact hy j u hu
  · have e : flat ps ++ U8 p = flat (ps ++ [p]) := by rw [flat_append, flat_one]
    refine h g c w' ⟨?_, fun q hq => ?_⟩ a2 a3 a4
    · rw [← e, List.length_append, List.length_singleton]; exact a1
    · rcases List.mem_append.1 hq with hq | hq
      · exact hown.2 q hq
      · rw [List.mem_singleton.1 hq]; exact hp
theorem yieldsIf_build {P : Program} {ops : Array Oper} {S : World → Prop} {op : Oper} {a : Act} (hw : Region.wanted op (yielded ops a.tmps) = true) (ty : TypeId) (ps : Array (Nat × Operand)) (ho : op.op = .build ty ps)
    (qs : Array (Nat × Value)) (hq : (ps.map fun (i, x) => (i, a.eval x)) = qs) (v : Value) (hr : ∀ W, (Instr.build ty qs).run P W = .ok v W) : YieldsIf P ops S op v a :=
  .inl ⟨hw, fun W _ => by
    unfold execOp
    simp only [ho, Sem.run_bind, hq, hr, Result.andThen_ok]
    rfl⟩
theorem step_slice {P : Program} {w : World} {ops : Array Oper} {o : Oper} {a : Act} {K : Act → World → Prop} {Q : Exit → Act → World → Prop} {E : Prop} (hw : Region.wanted o (yielded ops a.tmps) = true) (ty : TypeId) (len : Nat) (ps : Array (Nat × Operand)) (ho : o.op = .buildSlice ty len ps)
    (qs : Array (Nat × Value)) (hq : (ps.map fun (i, x) => (i, a.eval x)) = qs) (v : Value) (w' : World) (hr : (Instr.buildSlice ty len qs).run P w = .ok v w') (h : K (a.put o.dst v) w') : if Region.wanted o (yielded ops a.tmps) = true then Oper.wp P o a w K Q else E := by
  rw [if_pos hw]
  unfold Oper.wp execOp
  simp only [ho, Sem.run_bind, hq, hr, Result.andThen_ok]
  exact h
theorem load_at {P : Program} (ty : TypeId) (n : Nat) (e : TypeId) (b o : Nat) (cs : List Int) (hu : P.underlying ty = some (.array n e)) (hi : (P.info? ty).map (·.size) = some (U8 cs).length) (W : World) (h : W.rangeAt b o (U8 cs)) :
    (Instr.loadAt ty (.pointer (some ⟨b, o, none⟩))).run P W = .ok (.agg (V8 cs)) W := run_loadAt_mid W b o ty (U8 cs) _ h hu rfl hi
theorem take_snoc {α : Type} {ps : List α} {k : Nat} {p : α} (h : ps[k]? = some p) : ps.take (k + 1) = ps.take k ++ [p] := by rw [List.take_add_one, h]; rfl
set_option maxRecDepth 100000 in
set_option maxHeartbeats 8000000 in
theorem few_any (a : Option Addr) (c : Nat) (ps : List (List Int)) (w : World) (h : PsAt w a ps) (hn : ps.length ≤ 9223372036854775807) :
    Calls Try.prog 5 #[.slice a ps.length c] w fun e w' => (∃ v, e = .returned v ∧ OwnP 46 w' w.heap.size v (ps.take 40)) ∧ Below w.heap.size w w' := by
  have HS := Lib.hid h
  obtain ⟨n, hnl⟩ : ∃ n, ps.length = n := ⟨_, rfl⟩
  have HN := Lib.hid hnl
  rw [hnl] at hn ⊢
  clear h hnl
  go_enter Try.func5, Try.ntmps5
  go_wp2_with fail
  go_loopw [3, 4] (fun o i wr => ∃ (k : Nat) (oa : Option Addr) (oc : Nat), k ≤ 40 ∧ k ≤ n ∧ i = .int .i64 (k : Int) ∧ o = .slice oa k oc ∧ OwnP 46 wr w.heap.size (.slice oa k oc) (ps.take k) ∧ Below w.heap.size w wr) (fun o i _ => n - (intOf i).toNat)
  case atStart => exact ⟨0, none, 0, by omega, by omega, rfl, rfl, by rw [List.take_zero]; exact OwnP.nil _ _ _, Below.refl _ _⟩
  case round =>
    obtain ⟨k, oa, oc, hk, hkn, rfl, rfl, ho, hb⟩ := hrel
    have HO := Lib.hid ho
    have HB := Lib.hid hb
    clear ho hb
    have wk := next_int k (by omega)
    by_cases h1 : k = n
    · subst h1
      have HE : Hid (ps.take 40 = ps.take k) := by
        show _ = _
        rw [List.take_of_length_le (by rw [HN.out]; omega), List.take_of_length_le (by rw [HN.out]; omega)]
      go_wp2_with fail
      go_ret
      exact ⟨⟨_, rfl, by rw [HE.out]; exact HO.out⟩, HB.out⟩
    · have hkl : k < n := by omega
      have hki : (k : Int) < (n : Int) := by omega
      by_cases h2 : k = 40
      · subst h2
        go_wp2_with fail
        go_ret
        exact ⟨⟨_, rfl, HO.out⟩, HB.out⟩
      · have hk30 : k < 40 := by omega
        have hk3i : (k : Int) < 40 := by omega
        obtain ⟨b, off, p, rfl, hp, h40, hbl, hr⟩ := HS.out.at (k := k) (by rw [HN.out]; exact hkl)
        have HT := Lib.hid (take_snoc hp)
        have H40 := Lib.hid h40
        have HC0 : Hid (∀ W, Below w.heap.size w W → W.rangeAt b (off + k * 40) (U8 p)) := fun W hW => range_below hr hW hbl
        have hl1 : ∀ W, W.rangeAt b (off + k * 40) (U8 p) → (Instr.loadAt 41 (.pointer (some ⟨b, off + k * 40, none⟩))).run Try.prog W = .ok (.agg (V8 (p.take 20))) W := fun W hW => load_at 41 20 _ b (off + k * 40) _ Try.underlying41 (id24_infoL _ (take20_len H40.out)) W (range_git hW)
        have hl2 : ∀ W, W.rangeAt b (off + k * 40) (U8 p) → (Instr.loadAt 41 (.pointer (some ⟨b, off + k * 40 + 20, none⟩))).run Try.prog W = .ok (.agg (V8 (p.drop 20))) W := fun W hW => load_at 41 20 _ b (off + k * 40 + 20) _ Try.underlying41 (id24_infoL _ (drop20_len H40.out)) W (range_hg hW)
        have hbu := fun W => build_pair (p.take 20) (p.drop 20) (take20_len H40.out) (drop20_len H40.out) W
        rw [List.take_append_drop] at hbu
        have hbs := fun W => slice_one p H40.out W
        have HBW : Hid (Below w.heap.size w (wr.drew.alloc (.cells (V8 p) 46))) := HB.out.drew.alloc (by exact HB.out.size) _
        have HLI : Hid ((wr.drew.alloc (.cells (V8 p) 46)).rangeAt wr.heap.size 0 (U8 p)) := box_range wr.drew p _
        have HO6 : Hid (OwnP 46 (wr.drew.alloc (.cells (V8 p) 46)) w.heap.size (.slice oa k oc) (ps.take k)) := HO.out.below ((Below.refl _ _).drew.alloc (Nat.le_refl _) _)
        have HTL : Hid ((ps.take k).length = k) := by show _ = _; rw [List.length_take, HN.out]; omega
        clear hp h40 hbl hr
        go_wp2_with fail
        refine wp_region_noPanic ?_
        refine wp_region_held_drew (S := fun W => W.rangeAt b (off + k * 40) (U8 p)) (by kernel_rfl) ?_ (fun hHeld => ?_)
        · exact HC0.out _ HB.out.drew
        refine wpAnyH_take (i := 0) (v := ?_) (by simp only [List.getElem?_toArray, List.getElem?_cons_zero]; rfl) (by kernel_rfl) (by kernel_rfl) (by kernel_rfl) (fun _ _ _ h => h) (Or.inl ⟨by rfl, ?_⟩) (by assumption) ?_
        rotate_left
        · intro W hSW
          go_simp
          try with_reducible rfl
        try simp only [Act.put, List.setIfInBounds_toArray, List.set_cons_zero, List.set_cons_succ]
        refine wpAnyH_take (i := 1) (v := ?_) (by simp only [List.getElem?_toArray, List.getElem?_cons_succ, List.getElem?_cons_zero]; rfl) (by kernel_rfl) (by kernel_rfl) (by kernel_rfl) (fun _ _ _ h => h) (Or.inl ⟨by rfl, ?_⟩) (by assumption) ?_
        rotate_left
        · intro W hSW
          go_simp
          try with_reducible rfl
        try simp only [Act.put, List.setIfInBounds_toArray, List.set_cons_zero, List.set_cons_succ]
        refine wpAnyH_take (i := 2) (v := ?_) (by simp only [List.getElem?_toArray, List.getElem?_cons_succ, List.getElem?_cons_zero]; rfl) (by kernel_rfl) (by kernel_rfl) (by kernel_rfl) (fun _ _ _ h => h) (Or.inl ⟨by rfl, ?_⟩) (by assumption) ?_
        rotate_left
        · intro W hSW
          go_simp
          try with_reducible rfl
        try simp only [Act.put, List.setIfInBounds_toArray, List.set_cons_zero, List.set_cons_succ]
        refine wpAnyH_take (i := 3) (v := ?_) (by simp only [List.getElem?_toArray, List.getElem?_cons_succ, List.getElem?_cons_zero]; rfl) (by kernel_rfl) (by kernel_rfl) (by kernel_rfl) (fun _ _ _ h => h) (Or.inl ⟨by rfl, ?_⟩) (by assumption) ?_
        rotate_left
        · intro W hSW
          go_simp
          try with_reducible rfl
        try simp only [Act.put, List.setIfInBounds_toArray, List.set_cons_zero, List.set_cons_succ]
        refine wpAnyH_take (i := 4) (v := ?_) (by simp only [List.getElem?_toArray, List.getElem?_cons_succ, List.getElem?_cons_zero]; rfl) (by kernel_rfl) (by kernel_rfl) (by kernel_rfl) (fun _ _ _ h => h) (Or.inl ⟨by rfl, ?_⟩) (by assumption) ?_
        rotate_left
        · intro W hSW
          go_simp
          try with_reducible rfl
        try simp only [Act.put, List.setIfInBounds_toArray, List.set_cons_zero, List.set_cons_succ]
        refine wpAnyH_take (i := 5) (by simp only [List.getElem?_toArray, List.getElem?_cons_succ, List.getElem?_cons_zero]; rfl) (by kernel_rfl) (by kernel_rfl) (by kernel_rfl) (fun _ _ _ h => h) (yieldsIf_load_v8 (by rfl) 41 _ rfl b (off + k * 40) rfl (p.take 20) _ (fun W hSW => range_git hSW) Try.underlying41 rfl (id24_infoL _ (take20_len H40.out))) (by assumption) ?_
        try simp only [Act.put, List.setIfInBounds_toArray, List.set_cons_zero, List.set_cons_succ]
        refine wpAnyH_take (i := 6) (v := ?_) (by simp only [List.getElem?_toArray, List.getElem?_cons_succ, List.getElem?_cons_zero]; rfl) (by kernel_rfl) (by kernel_rfl) (by kernel_rfl) (fun _ _ _ h => h) (Or.inl ⟨by rfl, ?_⟩) (by assumption) ?_
        rotate_left
        · intro W hSW
          go_simp
          try with_reducible rfl
        try simp only [Act.put, List.setIfInBounds_toArray, List.set_cons_zero, List.set_cons_succ]
        refine wpAnyH_take (i := 7) (v := ?_) (by simp only [List.getElem?_toArray, List.getElem?_cons_succ, List.getElem?_cons_zero]; rfl) (by kernel_rfl) (by kernel_rfl) (by kernel_rfl) (fun _ _ _ h => h) (Or.inl ⟨by rfl, ?_⟩) (by assumption) ?_
        rotate_left
        · intro W hSW
          go_simp
          try with_reducible rfl
        try simp only [Act.put, List.setIfInBounds_toArray, List.set_cons_zero, List.set_cons_succ]
        refine wpAnyH_take (i := 8) (v := ?_) (by simp only [List.getElem?_toArray, List.getElem?_cons_succ, List.getElem?_cons_zero]; rfl) (by kernel_rfl) (by kernel_rfl) (by kernel_rfl) (fun _ _ _ h => h) (Or.inl ⟨by rfl, ?_⟩) (by assumption) ?_
        rotate_left
        · intro W hSW
          go_simp
          try with_reducible rfl
        try simp only [Act.put, List.setIfInBounds_toArray, List.set_cons_zero, List.set_cons_succ]
        refine wpAnyH_take (i := 9) (v := ?_) (by simp only [List.getElem?_toArray, List.getElem?_cons_succ, List.getElem?_cons_zero]; rfl) (by kernel_rfl) (by kernel_rfl) (by kernel_rfl) (fun _ _ _ h => h) (Or.inl ⟨by rfl, ?_⟩) (by assumption) ?_
        rotate_left
        · intro W hSW
          go_simp
          try with_reducible rfl
        try simp only [Act.put, List.setIfInBounds_toArray, List.set_cons_zero, List.set_cons_succ]
        refine wpAnyH_take (i := 10) (by simp only [List.getElem?_toArray, List.getElem?_cons_succ, List.getElem?_cons_zero]; rfl) (by kernel_rfl) (by kernel_rfl) (by kernel_rfl) (fun _ _ _ h => h) (yieldsIf_load_v8 (by rfl) 41 _ rfl b (off + k * 40 + 20) rfl (p.drop 20) _ (fun W hSW => range_hg hSW) Try.underlying41 rfl (id24_infoL _ (drop20_len H40.out))) (by assumption) ?_
        try simp only [Act.put, List.setIfInBounds_toArray, List.set_cons_zero, List.set_cons_succ]
        refine wpAnyH_take (i := 11) (by simp only [List.getElem?_toArray, List.getElem?_cons_succ, List.getElem?_cons_zero]; rfl) (by kernel_rfl) (by kernel_rfl) (by kernel_rfl) (fun _ _ _ h => h) (yieldsIf_build (by rfl) _ _ rfl #[(0, .agg (V8 (p.take 20))), (1, .agg (V8 (p.drop 20)))] (by simp [Act.eval]) (.agg (V8 p)) hbu) (by assumption) ?_
        try simp only [Act.put, List.setIfInBounds_toArray, List.set_cons_zero, List.set_cons_succ]
        refine wpAnyH_ready (rs := [12]) (by kernel_rfl) (by simp) ?_
        refine AllReadyH.cons (by simp only [List.getElem?_toArray, List.getElem?_cons_succ, List.getElem?_cons_zero]; rfl) (fun K hK => ?_) AllReadyH.nil
        refine step_slice (by rfl) _ _ _ rfl #[(0, .agg (V8 p))] (by simp [Act.eval]) _ _ (hbs _) ?_
        refine hK.out _ _ (HC0.out _ HBW.out) (fun hHeld2 => ?_)
        clear hK K hHeld
        have hHeld := hHeld2
        clear hHeld2
        try simp only [Act.put, List.setIfInBounds_toArray, List.set_cons_zero, List.set_cons_succ]
        refine wpAnyH_ready (rs := [13]) (by kernel_rfl) (by simp) ?_
        refine AllReadyH.cons (by simp only [List.getElem?_toArray, List.getElem?_cons_succ, List.getElem?_cons_zero]; rfl) (fun K hK => ?_) AllReadyH.nil
        refine step_append_pair rfl _ _ rfl w.heap.size (.slice oa k oc) (ps.take k) k HTL.out rfl HO6.out wr.heap.size p H40.out rfl HLI.out (by omega) HBW.out.size ?_
        rintro g2 gc2 w7 ho1 hg1 hgg hgl
        have HO1 := Lib.hid ho1
        have HB7 : Hid (Below w.heap.size w w7) := HBW.out.grown hg1 HBW.out.size (fun g hg => (HO.out.lt hg).1)
        clear ho1 hg1 hgg hgl
        refine hK.out _ _ (HC0.out _ HB7.out) (fun hHeld2 => ?_)
        clear hK K hHeld
        have hHeld := hHeld2
        clear hHeld2
        try simp only [Act.put, List.setIfInBounds_toArray, List.set_cons_zero, List.set_cons_succ]
        refine wpAnyH_take (i := 14) (v := ?_) (by simp only [List.getElem?_toArray, List.getElem?_cons_succ, List.getElem?_cons_zero]; rfl) (by kernel_rfl) (by kernel_rfl) (by kernel_rfl) (fun _ _ _ h => h) (Or.inl ⟨by rfl, ?_⟩) (by assumption) ?_
        rotate_left
        · intro W hSW
          go_simp
          try with_reducible rfl
        try simp only [Act.put, List.setIfInBounds_toArray, List.set_cons_zero, List.set_cons_succ]
        refine wpAnyH_done (by kernel_rfl) ?_ _
        refine NoPanic.normal ?_
        clear HO HBW HLI HO6 hl1 hl2 hbu hbs
        go_wp2_with fail
        refine ⟨⟨k + 1, some ⟨g2, 0, none⟩, gc2, by omega, by omega, by first | rfl | exact congrArg (Value.int .i64) (wk _ rfl), rfl, ?_, HB7.out⟩, by simp [intOf]; omega⟩
        rw [HT.out]
        exact HO1.out
set_option maxRecDepth 100000 in
set_option maxHeartbeats 8000000 in
theorem as_any (a : Option Addr) (c : Nat) (ps : List (List Int)) (w : World) (h : PsAt w a ps) (hn : ps.length ≤ 1000000) :
    Calls Try.prog 8 #[.slice a ps.length c] w fun e w' => (∃ v, e = .returned v ∧ OwnP 44 w' w.heap.size v (ps)) ∧ Below w.heap.size w w' := by
  have HS := Lib.hid h
  obtain ⟨n, hnl⟩ : ∃ n, ps.length = n := ⟨_, rfl⟩
  have HN := Lib.hid hnl
  rw [hnl] at hn ⊢
  clear h hnl
  go_enter Try.func8, Try.ntmps8
  go_wp2_with fail
  go_loopw [3, 4] (fun o i wr => ∃ (k : Nat) (oa : Option Addr) (oc : Nat), k ≤ n ∧ i = .int .i64 (k : Int) ∧ o = .slice oa k oc ∧ OwnP 44 wr w.heap.size (.slice oa k oc) (ps.take k) ∧ Below w.heap.size w wr) (fun o i _ => n - (intOf i).toNat)
  case atStart => exact ⟨0, none, 0, by omega, rfl, rfl, by rw [List.take_zero]; exact OwnP.nil _ _ _, Below.refl _ _⟩
  case round =>
    obtain ⟨k, oa, oc, hkn, rfl, rfl, ho, hb⟩ := hrel
    have HO := Lib.hid ho
    have HB := Lib.hid hb
    clear ho hb
    have wk := next_int k (by omega)
    by_cases h1 : k = n
    · subst h1
      have HE : Hid (ps = ps.take k) := by
        show _ = _
        rw [List.take_of_length_le (by rw [HN.out]; omega)]
      go_wp2_with fail
      go_ret
      exact ⟨⟨_, rfl, by rw [HE.out]; exact HO.out⟩, HB.out⟩
    · have hkl : k < n := by omega
      have hki : (k : Int) < (n : Int) := by omega
      obtain ⟨b, off, p, rfl, hp, h40, hbl, hr⟩ := HS.out.at (k := k) (by rw [HN.out]; exact hkl)
      have HT := Lib.hid (take_snoc hp)
      have H40 := Lib.hid h40
      have HC0 : Hid (∀ W, Below w.heap.size w W → W.rangeAt b (off + k * 40) (U8 p)) := fun W hW => range_below hr hW hbl
      have hl1 : ∀ W, W.rangeAt b (off + k * 40) (U8 p) → (Instr.loadAt 42 (.pointer (some ⟨b, off + k * 40, none⟩))).run Try.prog W = .ok (.agg (V8 (p.take 20))) W := fun W hW => load_at 42 20 _ b (off + k * 40) _ Try.underlying42 (id_infoL _ (take20_len H40.out)) W (range_git hW)
      have hl2 : ∀ W, W.rangeAt b (off + k * 40) (U8 p) → (Instr.loadAt 42 (.pointer (some ⟨b, off + k * 40 + 20, none⟩))).run Try.prog W = .ok (.agg (V8 (p.drop 20))) W := fun W hW => load_at 42 20 _ b (off + k * 40 + 20) _ Try.underlying42 (id_infoL _ (drop20_len H40.out)) W (range_hg hW)
      have hbu := fun W => build_rpair (p.take 20) (p.drop 20) (take20_len H40.out) (drop20_len H40.out) W
      rw [List.take_append_drop] at hbu
      have hbs := fun W => slice_rone p H40.out W
      have HBW : Hid (Below w.heap.size w (wr.drew.alloc (.cells (V8 p) 44))) := HB.out.drew.alloc (by exact HB.out.size) _
      have HLI : Hid ((wr.drew.alloc (.cells (V8 p) 44)).rangeAt wr.heap.size 0 (U8 p)) := box_range wr.drew p _
      have HO6 : Hid (OwnP 44 (wr.drew.alloc (.cells (V8 p) 44)) w.heap.size (.slice oa k oc) (ps.take k)) := HO.out.below ((Below.refl _ _).drew.alloc (Nat.le_refl _) _)
      have HTL : Hid ((ps.take k).length = k) := by show _ = _; rw [List.length_take, HN.out]; omega
      clear hp h40 hbl hr
      go_wp2_with fail
      refine wp_region_noPanic ?_
      refine wp_region_held_drew (S := fun W => W.rangeAt b (off + k * 40) (U8 p)) (by kernel_rfl) ?_ (fun hHeld => ?_)
      · exact HC0.out _ HB.out.drew
      refine wpAnyH_take (i := 0) (v := ?_) (by simp only [List.getElem?_toArray, List.getElem?_cons_zero]; rfl) (by kernel_rfl) (by kernel_rfl) (by kernel_rfl) (fun _ _ _ h => h) (Or.inl ⟨by rfl, ?_⟩) (by assumption) ?_
      rotate_left
      · intro W hSW
        go_simp
        try with_reducible rfl
      try simp only [Act.put, List.setIfInBounds_toArray, List.set_cons_zero, List.set_cons_succ]
      refine wpAnyH_take (i := 1) (v := ?_) (by simp only [List.getElem?_toArray, List.getElem?_cons_succ, List.getElem?_cons_zero]; rfl) (by kernel_rfl) (by kernel_rfl) (by kernel_rfl) (fun _ _ _ h => h) (Or.inl ⟨by rfl, ?_⟩) (by assumption) ?_
      rotate_left
      · intro W hSW
        go_simp
        try with_reducible rfl
      try simp only [Act.put, List.setIfInBounds_toArray, List.set_cons_zero, List.set_cons_succ]
      refine wpAnyH_take (i := 2) (v := ?_) (by simp only [List.getElem?_toArray, List.getElem?_cons_succ, List.getElem?_cons_zero]; rfl) (by kernel_rfl) (by kernel_rfl) (by kernel_rfl) (fun _ _ _ h => h) (Or.inl ⟨by rfl, ?_⟩) (by assumption) ?_
      rotate_left
      · intro W hSW
        go_simp
        try with_reducible rfl
      try simp only [Act.put, List.setIfInBounds_toArray, List.set_cons_zero, List.set_cons_succ]
      refine wpAnyH_take (i := 3) (v := ?_) (by simp only [List.getElem?_toArray, List.getElem?_cons_succ, List.getElem?_cons_zero]; rfl) (by kernel_rfl) (by kernel_rfl) (by kernel_rfl) (fun _ _ _ h => h) (Or.inl ⟨by rfl, ?_⟩) (by assumption) ?_
      rotate_left
      · intro W hSW
        go_simp
        try with_reducible rfl
      try simp only [Act.put, List.setIfInBounds_toArray, List.set_cons_zero, List.set_cons_succ]
      refine wpAnyH_take (i := 4) (v := ?_) (by simp only [List.getElem?_toArray, List.getElem?_cons_succ, List.getElem?_cons_zero]; rfl) (by kernel_rfl) (by kernel_rfl) (by kernel_rfl) (fun _ _ _ h => h) (Or.inl ⟨by rfl, ?_⟩) (by assumption) ?_
      rotate_left
      · intro W hSW
        go_simp
        try with_reducible rfl
      try simp only [Act.put, List.setIfInBounds_toArray, List.set_cons_zero, List.set_cons_succ]
      refine wpAnyH_take (i := 5) (by simp only [List.getElem?_toArray, List.getElem?_cons_succ, List.getElem?_cons_zero]; rfl) (by kernel_rfl) (by kernel_rfl) (by kernel_rfl) (fun _ _ _ h => h) (yieldsIf_load_v8 (by rfl) 42 _ rfl b (off + k * 40) rfl (p.take 20) _ (fun W hSW => range_git hSW) Try.underlying42 rfl (id_infoL _ (take20_len H40.out))) (by assumption) ?_
      try simp only [Act.put, List.setIfInBounds_toArray, List.set_cons_zero, List.set_cons_succ]
      refine wpAnyH_take (i := 6) (v := ?_) (by simp only [List.getElem?_toArray, List.getElem?_cons_succ, List.getElem?_cons_zero]; rfl) (by kernel_rfl) (by kernel_rfl) (by kernel_rfl) (fun _ _ _ h => h) (Or.inl ⟨by rfl, ?_⟩) (by assumption) ?_
      rotate_left
      · intro W hSW
        go_simp
        try with_reducible rfl
      try simp only [Act.put, List.setIfInBounds_toArray, List.set_cons_zero, List.set_cons_succ]
      refine wpAnyH_take (i := 7) (v := ?_) (by simp only [List.getElem?_toArray, List.getElem?_cons_succ, List.getElem?_cons_zero]; rfl) (by kernel_rfl) (by kernel_rfl) (by kernel_rfl) (fun _ _ _ h => h) (Or.inl ⟨by rfl, ?_⟩) (by assumption) ?_
      rotate_left
      · intro W hSW
        go_simp
        try with_reducible rfl
      try simp only [Act.put, List.setIfInBounds_toArray, List.set_cons_zero, List.set_cons_succ]
      refine wpAnyH_take (i := 8) (v := ?_) (by simp only [List.getElem?_toArray, List.getElem?_cons_succ, List.getElem?_cons_zero]; rfl) (by kernel_rfl) (by kernel_rfl) (by kernel_rfl) (fun _ _ _ h => h) (Or.inl ⟨by rfl, ?_⟩) (by assumption) ?_
      rotate_left
      · intro W hSW
        go_simp
        try with_reducible rfl
      try simp only [Act.put, List.setIfInBounds_toArray, List.set_cons_zero, List.set_cons_succ]
      refine wpAnyH_take (i := 9) (v := ?_) (by simp only [List.getElem?_toArray, List.getElem?_cons_succ, List.getElem?_cons_zero]; rfl) (by kernel_rfl) (by kernel_rfl) (by kernel_rfl) (fun _ _ _ h => h) (Or.inl ⟨by rfl, ?_⟩) (by assumption) ?_
      rotate_left
      · intro W hSW
        go_simp
        try with_reducible rfl
      try simp only [Act.put, List.setIfInBounds_toArray, List.set_cons_zero, List.set_cons_succ]
      refine wpAnyH_take (i := 10) (by simp only [List.getElem?_toArray, List.getElem?_cons_succ, List.getElem?_cons_zero]; rfl) (by kernel_rfl) (by kernel_rfl) (by kernel_rfl) (fun _ _ _ h => h) (yieldsIf_load_v8 (by rfl) 42 _ rfl b (off + k * 40 + 20) rfl (p.drop 20) _ (fun W hSW => range_hg hSW) Try.underlying42 rfl (id_infoL _ (drop20_len H40.out))) (by assumption) ?_
      try simp only [Act.put, List.setIfInBounds_toArray, List.set_cons_zero, List.set_cons_succ]
      refine wpAnyH_take (i := 11) (by simp only [List.getElem?_toArray, List.getElem?_cons_succ, List.getElem?_cons_zero]; rfl) (by kernel_rfl) (by kernel_rfl) (by kernel_rfl) (fun _ _ _ h => h) (yieldsIf_build (by rfl) _ _ rfl #[(0, .agg (V8 (p.take 20))), (1, .agg (V8 (p.drop 20)))] (by simp [Act.eval]) (.agg (V8 p)) hbu) (by assumption) ?_
      try simp only [Act.put, List.setIfInBounds_toArray, List.set_cons_zero, List.set_cons_succ]
      refine wpAnyH_ready (rs := [12]) (by kernel_rfl) (by simp) ?_
      refine AllReadyH.cons (by simp only [List.getElem?_toArray, List.getElem?_cons_succ, List.getElem?_cons_zero]; rfl) (fun K hK => ?_) AllReadyH.nil
      refine step_slice (by rfl) _ _ _ rfl #[(0, .agg (V8 p))] (by simp [Act.eval]) _ _ (hbs _) ?_
      refine hK.out _ _ (HC0.out _ HBW.out) (fun hHeld2 => ?_)
      clear hK K hHeld
      have hHeld := hHeld2
      clear hHeld2
      try simp only [Act.put, List.setIfInBounds_toArray, List.set_cons_zero, List.set_cons_succ]
      refine wpAnyH_ready (rs := [13]) (by kernel_rfl) (by simp) ?_
      refine AllReadyH.cons (by simp only [List.getElem?_toArray, List.getElem?_cons_succ, List.getElem?_cons_zero]; rfl) (fun K hK => ?_) AllReadyH.nil
      refine step_append_pair_r rfl _ _ rfl w.heap.size (.slice oa k oc) (ps.take k) k HTL.out rfl HO6.out wr.heap.size p H40.out rfl HLI.out (by omega) HBW.out.size ?_
      rintro g2 gc2 w7 ho1 hg1 hgg hgl
      have HO1 := Lib.hid ho1
      have HB7 : Hid (Below w.heap.size w w7) := HBW.out.grown hg1 HBW.out.size (fun g hg => (HO.out.lt hg).1)
      clear ho1 hg1 hgg hgl
      refine hK.out _ _ (HC0.out _ HB7.out) (fun hHeld2 => ?_)
      clear hK K hHeld
      have hHeld := hHeld2
      clear hHeld2
      try simp only [Act.put, List.setIfInBounds_toArray, List.set_cons_zero, List.set_cons_succ]
      refine wpAnyH_take (i := 14) (v := ?_) (by simp only [List.getElem?_toArray, List.getElem?_cons_succ, List.getElem?_cons_zero]; rfl) (by kernel_rfl) (by kernel_rfl) (by kernel_rfl) (fun _ _ _ h => h) (Or.inl ⟨by rfl, ?_⟩) (by assumption) ?_
      rotate_left
      · intro W hSW
        go_simp
        try with_reducible rfl
      try simp only [Act.put, List.setIfInBounds_toArray, List.set_cons_zero, List.set_cons_succ]
      refine wpAnyH_done (by kernel_rfl) ?_ _
      refine NoPanic.normal ?_
      clear HO HBW HLI HO6 hl1 hl2 hbu hbs
      go_wp2_with fail
      refine ⟨⟨k + 1, some ⟨g2, 0, none⟩, gc2, by omega, by first | rfl | exact congrArg (Value.int .i64) (wk _ rfl), rfl, ?_, HB7.out⟩, by simp [intOf]; omega⟩
      rw [HT.out]
      exact HO1.out
end Go.Proofs.Ytlhdjbnilfbaoaa
