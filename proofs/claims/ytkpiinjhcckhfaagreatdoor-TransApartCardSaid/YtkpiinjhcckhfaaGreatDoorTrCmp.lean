/- Persons and extras compared: whatever they tell. -/
import Derived.Test.YtkpiinjhcckhfaaGreatDoorTrM
import Derived.Test.YtkpiinjhcckhfaaGreatDoorCoSame
import Derived.Test.YtkpiinjhcckhfaaGreatDoorChSame
/-! Persons and extras compared: whatever they tell. -/
namespace Go.Proofs.YtkpiinjhcckhfaaGreatDoor
open Go.RowKit Plain Go.ChangeShapes Go.WideShapes Go.ChangeAt Go.Great
set_option linter.unusedVariables false
set_option linter.unusedSimpArgs false
theorem eqFields_any (P : Program) (w : World) (d : Nat) (X Y : Array Value) : ∀ fbs : List (Field × Bool), (∀ p ∈ fbs, p.1.name ≠ "_" ∧ ∃ v u, (part p.1.type X p.1.offset).run P w = .ok v w ∧ (part p.1.type Y p.1.offset).run P w = .ok u w ∧ (Op.equalIn d p.1.type v u).run P w = .ok p.2 w) →
    (Op.eqFields d X Y (fbs.map (·.1))).run P w = .ok (fbs.all (·.2)) w
  | [], _ => by simp [Op.eqFields]
  | (f, b) :: fs, h => by
    obtain ⟨hn, v, u, h1, h2, h3⟩ := h (f, b) (by simp)
    have ih := eqFields_any P w d X Y fs fun g hg => h g (by simp [hg])
    dsimp only at hn h1 h2 h3
    rw [List.map_cons, List.all_cons]
    simp only [Op.eqFields, hn, ne_eq, not_false_eq_true, if_true, Sem.run_bind, h1, h2, h3, Result.andThen_ok]
    cases b
    · simp
    · simpa using ih
theorem strq (a b : ByteArray) : (a.toList == b.toList) = decide (a = b) := by
  rw [Bool.eq_iff_iff, beq_iff_eq, decide_eq_true_eq]
  exact ⟨toList_inj' a b, fun h => by rw [h]⟩
set_option maxRecDepth 100000 in
theorem eqin_whos (d : Nat) (w : World) (x y : WX) : (Op.equalIn (d + 4) 31 (.agg (whoA x)) (.agg (whoA y))).run Tryz.prog w = .ok (decide (x = y)) w := by
  obtain ⟨f1, f2, f3, f4, hf, ⟨n1, n2, n3, n4⟩, ⟨t1, o1⟩, ⟨t2, o2⟩, ⟨t3, o3⟩, t4, o4⟩ := fields_who
  rw [run_equalIn_struct w (d + 3) 31 _ _ Tryz.underlying31 (by kernel_rfl), hf]
  have h := eqFields_any Tryz.prog w (d + 3) (whoA x) (whoA y) [(f1, x.n.toList == y.n.toList), (f2, x.m.toList == y.m.toList), (f3, x.t == y.t), (f4, x.z.toList == y.z.toList)] fun p hm => by
    simp only [List.mem_cons, List.not_mem_nil, or_false] at hm
    rcases hm with rfl | rfl | rfl | rfl
    · exact ⟨n1, .string x.n, .string y.n, by rw [t1, o1]; exact run_part_plain w (by kernel_rfl) rfl, by rw [t1, o1]; exact run_part_plain w (by kernel_rfl) rfl, by rw [t1]; exact run_equalIn_string w (d + 2) 9 x.n y.n Tryz.underlying9⟩
    · exact ⟨n2, .string x.m, .string y.m, by rw [t2, o2]; exact run_part_plain w (by kernel_rfl) rfl, by rw [t2, o2]; exact run_part_plain w (by kernel_rfl) rfl, by rw [t2]; exact run_equalIn_string w (d + 2) 9 x.m y.m Tryz.underlying9⟩
    · exact ⟨n3, .int .i64 x.t, .int .i64 y.t, by rw [t3, o3]; exact run_part_plain w (by kernel_rfl) rfl, by rw [t3, o3]; exact run_part_plain w (by kernel_rfl) rfl, by rw [t3]; exact run_equalIn_int w (d + 2) 3 .i64 .i64 x.t y.t Tryz.underlying3⟩
    · exact ⟨n4, .string x.z, .string y.z, by rw [t4, o4]; exact run_part_plain w (by kernel_rfl) rfl, by rw [t4, o4]; exact run_part_plain w (by kernel_rfl) rfl, by rw [t4]; exact run_equalIn_string w (d + 2) 9 x.z y.z Tryz.underlying9⟩
  refine h.trans ?_
  congr 1
  simp only [List.all_cons, List.all_nil, Bool.and_true, strq]
  obtain ⟨n, m, t, z⟩ := x
  obtain ⟨n', m', t', z'⟩ := y
  rw [Bool.eq_iff_iff]
  simp
set_option maxRecDepth 100000 in
theorem eql_whos (x y : WX) (w : World) : (binOp .eql 31 (.agg (whoA x)) (.agg (whoA y))).run Tryz.prog w = .ok (.bool (decide (x = y))) w := by
  rw [run_eql_struct, show (10000 : Nat) = 9996 + 4 from rfl, eqin_whos]
  rfl
theorem fields_cext : ∃ f1 f2, (Tryz.prog.fieldsOf 69).toList = [f1, f2] ∧ f1.name ≠ "_" ∧ f2.name ≠ "_" ∧ (f1.type = 9 ∧ f1.offset = 0) ∧ f2.type = 9 ∧ f2.offset = 1 := by
  have h : (Tryz.prog.fieldsOf 69).toList.map (fun f => (f.name == "_", f.type, f.offset)) = [(false, 9, 0), (false, 9, 1)] := by kernel_rfl
  generalize (Tryz.prog.fieldsOf 69).toList = l at *
  match l, h with
  | [], h => cases h
  | [_], h => simp at h
  | _ :: _ :: _ :: _, h => simp at h
  | [f1, f2], h =>
    simp only [List.map_cons, List.map_nil, List.cons.injEq, Prod.mk.injEq, and_true, beq_eq_false_iff_ne] at h
    exact ⟨f1, f2, rfl, h.1.1, h.2.1, h.1.2, h.2.2⟩
set_option maxRecDepth 100000 in
theorem neqs_cext (w : World) (x y : ByteArray × ByteArray) : (binOp .neq 69 (.agg (extE x).toArray) (.agg (extE y).toArray)).run Tryz.prog w = .ok (.bool (!decide (x = y))) w := by
  obtain ⟨f1, f2, hf, n1, n2, ⟨t1, o1⟩, t2, o2⟩ := fields_cext
  have e : (Op.equalIn (9996 + 4) 69 (.agg (extE x).toArray) (.agg (extE y).toArray)).run Tryz.prog w = .ok (decide (x = y)) w := by
    rw [run_equalIn_struct w (9996 + 3) 69 _ _ Tryz.underlying69 (by kernel_rfl), hf]
    have h := eqFields_any Tryz.prog w (9996 + 3) (extE x).toArray (extE y).toArray [(f1, x.1.toList == y.1.toList), (f2, x.2.toList == y.2.toList)] fun p hm => by
      simp only [List.mem_cons, List.not_mem_nil, or_false] at hm
      rcases hm with rfl | rfl
      · exact ⟨n1, .string x.1, .string y.1, by rw [t1, o1]; exact part_strF w _ 0 x.1 rfl, by rw [t1, o1]; exact part_strF w _ 0 y.1 rfl, by rw [t1]; exact run_equalIn_string w (9996 + 2) 9 x.1 y.1 Tryz.underlying9⟩
      · exact ⟨n2, .string x.2, .string y.2, by rw [t2, o2]; exact part_strF w _ 1 x.2 rfl, by rw [t2, o2]; exact part_strF w _ 1 y.2 rfl, by rw [t2]; exact run_equalIn_string w (9996 + 2) 9 x.2 y.2 Tryz.underlying9⟩
    refine h.trans ?_
    congr 1
    simp only [List.all_cons, List.all_nil, Bool.and_true, strq]
    obtain ⟨a, b⟩ := x
    obtain ⟨a', b'⟩ := y
    rw [Bool.eq_iff_iff]
    simp
  rw [run_neq_struct]
  rw [show (9996 + 4 : Nat) = 10000 from rfl] at e
  rw [e]
  rfl
theorem guardn_cext (x y : Operand) (u v : Array Value) (W : World) : (eqGuard .neq 69 x y (.agg u) (.agg v)).run Tryz.prog W = .ok () W := by simp [eqGuard]
theorem fields_xext : ∃ f1 f2, (Tryz.prog.fieldsOf 79).toList = [f1, f2] ∧ f1.name ≠ "_" ∧ f2.name ≠ "_" ∧ (f1.type = 9 ∧ f1.offset = 0) ∧ f2.type = 9 ∧ f2.offset = 1 := by
  have h : (Tryz.prog.fieldsOf 79).toList.map (fun f => (f.name == "_", f.type, f.offset)) = [(false, 9, 0), (false, 9, 1)] := by kernel_rfl
  generalize (Tryz.prog.fieldsOf 79).toList = l at *
  match l, h with
  | [], h => cases h
  | [_], h => simp at h
  | _ :: _ :: _ :: _, h => simp at h
  | [f1, f2], h =>
    simp only [List.map_cons, List.map_nil, List.cons.injEq, Prod.mk.injEq, and_true, beq_eq_false_iff_ne] at h
    exact ⟨f1, f2, rfl, h.1.1, h.2.1, h.1.2, h.2.2⟩
set_option maxRecDepth 100000 in
theorem neqs_xext (w : World) (x y : ByteArray × ByteArray) : (binOp .neq 79 (.agg (extE x).toArray) (.agg (extE y).toArray)).run Tryz.prog w = .ok (.bool (!decide (x = y))) w := by
  obtain ⟨f1, f2, hf, n1, n2, ⟨t1, o1⟩, t2, o2⟩ := fields_xext
  have e : (Op.equalIn (9996 + 4) 79 (.agg (extE x).toArray) (.agg (extE y).toArray)).run Tryz.prog w = .ok (decide (x = y)) w := by
    rw [run_equalIn_struct w (9996 + 3) 79 _ _ Tryz.underlying79 (by kernel_rfl), hf]
    have h := eqFields_any Tryz.prog w (9996 + 3) (extE x).toArray (extE y).toArray [(f1, x.1.toList == y.1.toList), (f2, x.2.toList == y.2.toList)] fun p hm => by
      simp only [List.mem_cons, List.not_mem_nil, or_false] at hm
      rcases hm with rfl | rfl
      · exact ⟨n1, .string x.1, .string y.1, by rw [t1, o1]; exact part_strF w _ 0 x.1 rfl, by rw [t1, o1]; exact part_strF w _ 0 y.1 rfl, by rw [t1]; exact run_equalIn_string w (9996 + 2) 9 x.1 y.1 Tryz.underlying9⟩
      · exact ⟨n2, .string x.2, .string y.2, by rw [t2, o2]; exact part_strF w _ 1 x.2 rfl, by rw [t2, o2]; exact part_strF w _ 1 y.2 rfl, by rw [t2]; exact run_equalIn_string w (9996 + 2) 9 x.2 y.2 Tryz.underlying9⟩
    refine h.trans ?_
    congr 1
    simp only [List.all_cons, List.all_nil, Bool.and_true, strq]
    obtain ⟨a, b⟩ := x
    obtain ⟨a', b'⟩ := y
    rw [Bool.eq_iff_iff]
    simp
  rw [run_neq_struct]
  rw [show (9996 + 4 : Nat) = 10000 from rfl] at e
  rw [e]
  rfl
theorem guardn_xext (x y : Operand) (u v : Array Value) (W : World) : (eqGuard .neq 79 x y (.agg u) (.agg v)).run Tryz.prog W = .ok () W := by simp [eqGuard]
end Go.Proofs.YtkpiinjhcckhfaaGreatDoor
/-! Extras, commits and changes compared: the walks. -/
namespace Go.Proofs.YtkpiinjhcckhfaaGreatDoor
open Go.RowKit Plain Go.ChangeShapes Go.WideShapes Go.ChangeAt Go.Great
set_option linter.unusedVariables false
set_option linter.unusedSimpArgs false
set_option maxRecDepth 100000 in
set_option maxHeartbeats 16000000 in
theorem cequal_any (xs ys : List (ByteArray × ByteArray)) (a1 : Option Addr) (c1 : Nat) (a2 : Option Addr) (c2 : Nat) (w : World) (h1 : RowAt 2 extE w a1 xs) (h2 : RowAt 2 extE w a2 ys) (hn : xs.length ≤ 100000) (hm : ys.length ≤ 100000) :
    Calls Tryz.prog 81 #[.slice a1 xs.length c1, .slice a2 ys.length c2] w fun e w' => e = .returned (.bool (decide (xs = ys))) ∧ Below w.heap.size w w' := by
  have HX1 := Lib.hid h1
  have HX2 := Lib.hid h2
  obtain ⟨n, hN⟩ : ∃ n, xs.length = n := ⟨_, rfl⟩
  obtain ⟨m, hM⟩ : ∃ n, ys.length = n := ⟨_, rfl⟩
  have HN := Lib.hid hN
  have HM := Lib.hid hM
  have HNB : Hid (n ≤ 100000) := by rw [← hN]; exact hn
  rw [hN, hM]
  by_cases hne : n = m
  rotate_left
  · have HF : Hid (decide (xs = ys) = false) := by
      show _ = _
      rw [decide_eq_false_iff_not]
      intro e
      exact hne (by rw [← hN, ← hM, e])
    rw [HF.out]
    have g1 : ¬ (n : Int) = (m : Int) := by omega
    have g2 : ((n : Int) != (m : Int)) = true := bne_iff_ne.2 g1
    clear h1 h2 hN hM hne
    go_enter Tryz.func81, Tryz.ntmps81
    go_wp2_with fail
    go_ret
    exact ⟨rfl, Below.refl _ _⟩
  · subst hne
    have g2 : ((n : Int) != (n : Int)) = false := by rw [bne_self_eq_false]
    clear h1 h2 hN hM
    go_enter Tryz.func81, Tryz.ntmps81
    go_wp2_with fail
    go_loopw [13] (fun i wr => ∃ k : Nat, k ≤ n ∧ i = .int .i64 (k : Int) ∧ xs.take k = ys.take k ∧ Below w.heap.size w wr) (fun i _ => n - (intOf i).toNat)
    case atStart => exact ⟨0, Nat.zero_le _, rfl, rfl, Below.refl _ _⟩
    case round =>
      obtain ⟨k, hk, rfl, htk, hb⟩ := hrel
      have HB := Lib.hid hb
      have HTK := Lib.hid htk
      have WK := Lib.hid (next_int k (by have := HNB.out; omega))
      clear hb htk
      by_cases hkn : k < n
      · have hki : (k : Int) < (n : Int) := by omega
        have HK1 : Hid (k + 1 ≤ n) := by show _ ≤ _; omega
        obtain ⟨x, hp⟩ : ∃ x, xs[k]? = some x := ⟨_, List.getElem?_eq_getElem (by rw [HN.out]; omega)⟩
        obtain ⟨y, hq⟩ : ∃ x, ys[k]? = some x := ⟨_, List.getElem?_eq_getElem (by rw [HM.out]; omega)⟩
        rcases HX1.out with h0 | ⟨b, off, rfl, hbl, hc⟩
        · rw [HN.out] at h0; omega
        rcases HX2.out with h0 | ⟨b2, off2, rfl, hbl2, hc2⟩
        · rw [HM.out] at h0; omega
        have HBD : Hid (Below w.heap.size w wr.drew) := HB.out.drew
        have HR1 : Hid (wr.drew.rangeAt b (off + k * 2) (extE x)) := range_below (hc k x hp) HBD.out hbl
        have HR2 : Hid (wr.drew.rangeAt b2 (off2 + k * 2) (extE y)) := range_below (hc2 k y hq) HBD.out hbl2
        have HP := Lib.hid hp
        have HQ := Lib.hid hq
        clear hp hq hbl hc hbl2 hc2 hkn
        by_cases hxy : x = y
        · have HNE : Hid (∀ W, (binOp .neq 69 (.agg (extE x).toArray) (.agg (extE y).toArray)).run Tryz.prog W = .ok (.bool false) W) := fun W => by rw [neqs_cext, decide_eq_true hxy]; rfl
          have HTN : Hid (xs.take (k + 1) = ys.take (k + 1)) := by show _ = _; rw [List.take_add_one, List.take_add_one, HP.out, HQ.out, HTK.out, hxy]
          clear hxy
          go_wp2_with fail
          refine wp_region_noPanic ?_
          refine wp_region_held_drew (S := fun W => W.rangeAt b (off + k * 2) (extE x) ∧ W.rangeAt b2 (off2 + k * 2) (extE y)) (by kernel_rfl) ?_ (fun hHeld => ?_)
          · exact ⟨HR1.out, HR2.out⟩
          refine tkV 0 (v := ?_) (hw := ?_) (h := ?_)
          rotate_left
          · intro W hSW
            go_simp
            try with_reducible rfl
          try simp only [Act.put, List.setIfInBounds_toArray, List.set_cons_zero, List.set_cons_succ]
          refine tkV 1 (v := ?_) (hw := ?_) (h := ?_)
          rotate_left
          · intro W hSW
            go_simp
            try with_reducible rfl
          try simp only [Act.put, List.setIfInBounds_toArray, List.set_cons_zero, List.set_cons_succ]
          refine tkV 2 (v := ?_) (hw := ?_) (h := ?_)
          rotate_left
          · intro W hSW
            go_simp
            try with_reducible rfl
          try simp only [Act.put, List.setIfInBounds_toArray, List.set_cons_zero, List.set_cons_succ]
          refine tkY 3 (hy := (yieldsIf_load_mid (by rfl) 69 _ rfl b (off + k * 2) rfl (extE x) _ (fun W hSW => hSW.1) Tryz.underlying69 rfl (info_cext x))) (h := ?_)
          try simp only [Act.put, List.setIfInBounds_toArray, List.set_cons_zero, List.set_cons_succ]
          refine tkV 4 (v := ?_) (hw := ?_) (h := ?_)
          rotate_left
          · intro W hSW
            go_simp
            try with_reducible rfl
          try simp only [Act.put, List.setIfInBounds_toArray, List.set_cons_zero, List.set_cons_succ]
          refine tkV 5 (v := ?_) (hw := ?_) (h := ?_)
          rotate_left
          · intro W hSW
            go_simp
            try with_reducible rfl
          try simp only [Act.put, List.setIfInBounds_toArray, List.set_cons_zero, List.set_cons_succ]
          refine tkV 6 (v := ?_) (hw := ?_) (h := ?_)
          rotate_left
          · intro W hSW
            go_simp
            try with_reducible rfl
          try simp only [Act.put, List.setIfInBounds_toArray, List.set_cons_zero, List.set_cons_succ]
          refine tkY 7 (hy := (yieldsIf_load_mid (by rfl) 69 _ rfl b2 (off2 + k * 2) rfl (extE y) _ (fun W hSW => hSW.2) Tryz.underlying69 rfl (info_cext y))) (h := ?_)
          try simp only [Act.put, List.setIfInBounds_toArray, List.set_cons_zero, List.set_cons_succ]
          refine tkY 8 (hy := (yieldsIf_eql (by rfl) .neq 69 _ _ _ rfl (.agg (extE x).toArray) (.agg (extE y).toArray) rfl rfl (.bool false) (fun W => guardn_cext _ _ _ _ W) (fun W => HNE.out W))) (h := ?_)
          try simp only [Act.put, List.setIfInBounds_toArray, List.set_cons_zero, List.set_cons_succ]
          refine wpAnyH_done (by kernel_rfl) ?_ _
          refine NoPanic.normal ?_
          clear hHeld
          go_wp2_with fail
          try rw [WK.out ((k : Int) + 1) rfl]
          exact ⟨⟨k + 1, HK1.out, rfl, HTN.out, HBD.out⟩, by simp [intOf]; have := HK1.out; omega⟩
        · have HNE : Hid (∀ W, (binOp .neq 69 (.agg (extE x).toArray) (.agg (extE y).toArray)).run Tryz.prog W = .ok (.bool true) W) := fun W => by rw [neqs_cext, decide_eq_false hxy]; rfl
          have HF : Hid (decide (xs = ys) = false) := by
            show _ = _
            rw [decide_eq_false_iff_not]
            intro e
            have h3 := HP.out
            rw [e, HQ.out] at h3
            exact hxy (Option.some.inj h3).symm
          clear hxy
          go_wp2_with fail
          refine wp_region_noPanic ?_
          refine wp_region_held_drew (S := fun W => W.rangeAt b (off + k * 2) (extE x) ∧ W.rangeAt b2 (off2 + k * 2) (extE y)) (by kernel_rfl) ?_ (fun hHeld => ?_)
          · exact ⟨HR1.out, HR2.out⟩
          refine tkV 0 (v := ?_) (hw := ?_) (h := ?_)
          rotate_left
          · intro W hSW
            go_simp
            try with_reducible rfl
          try simp only [Act.put, List.setIfInBounds_toArray, List.set_cons_zero, List.set_cons_succ]
          refine tkV 1 (v := ?_) (hw := ?_) (h := ?_)
          rotate_left
          · intro W hSW
            go_simp
            try with_reducible rfl
          try simp only [Act.put, List.setIfInBounds_toArray, List.set_cons_zero, List.set_cons_succ]
          refine tkV 2 (v := ?_) (hw := ?_) (h := ?_)
          rotate_left
          · intro W hSW
            go_simp
            try with_reducible rfl
          try simp only [Act.put, List.setIfInBounds_toArray, List.set_cons_zero, List.set_cons_succ]
          refine tkY 3 (hy := (yieldsIf_load_mid (by rfl) 69 _ rfl b (off + k * 2) rfl (extE x) _ (fun W hSW => hSW.1) Tryz.underlying69 rfl (info_cext x))) (h := ?_)
          try simp only [Act.put, List.setIfInBounds_toArray, List.set_cons_zero, List.set_cons_succ]
          refine tkV 4 (v := ?_) (hw := ?_) (h := ?_)
          rotate_left
          · intro W hSW
            go_simp
            try with_reducible rfl
          try simp only [Act.put, List.setIfInBounds_toArray, List.set_cons_zero, List.set_cons_succ]
          refine tkV 5 (v := ?_) (hw := ?_) (h := ?_)
          rotate_left
          · intro W hSW
            go_simp
            try with_reducible rfl
          try simp only [Act.put, List.setIfInBounds_toArray, List.set_cons_zero, List.set_cons_succ]
          refine tkV 6 (v := ?_) (hw := ?_) (h := ?_)
          rotate_left
          · intro W hSW
            go_simp
            try with_reducible rfl
          try simp only [Act.put, List.setIfInBounds_toArray, List.set_cons_zero, List.set_cons_succ]
          refine tkY 7 (hy := (yieldsIf_load_mid (by rfl) 69 _ rfl b2 (off2 + k * 2) rfl (extE y) _ (fun W hSW => hSW.2) Tryz.underlying69 rfl (info_cext y))) (h := ?_)
          try simp only [Act.put, List.setIfInBounds_toArray, List.set_cons_zero, List.set_cons_succ]
          refine tkY 8 (hy := (yieldsIf_eql (by rfl) .neq 69 _ _ _ rfl (.agg (extE x).toArray) (.agg (extE y).toArray) rfl rfl (.bool true) (fun W => guardn_cext _ _ _ _ W) (fun W => HNE.out W))) (h := ?_)
          try simp only [Act.put, List.setIfInBounds_toArray, List.set_cons_zero, List.set_cons_succ]
          refine wpAnyH_done (by kernel_rfl) ?_ _
          refine NoPanic.normal ?_
          clear hHeld
          go_wp2_with fail
          (try simp only [Exit.inBlock, Exit.then])
          go_ret
          exact ⟨by rw [HF.out] <;> rfl, HBD.out⟩
      · have hki : ¬ (k : Int) < (n : Int) := by omega
        have HF : Hid (decide (xs = ys) = true) := by
          show _ = _
          rw [decide_eq_true_eq]
          have h3 := HTK.out
          rwa [List.take_of_length_le (by rw [HN.out]; omega), List.take_of_length_le (by rw [HM.out]; omega)] at h3
        clear hkn hk
        go_wp2_with fail
        go_ret
        exact ⟨by rw [HF.out] <;> rfl, HB.out⟩
set_option maxRecDepth 100000 in
set_option maxHeartbeats 16000000 in
theorem xequal_any (xs ys : List (ByteArray × ByteArray)) (a1 : Option Addr) (c1 : Nat) (a2 : Option Addr) (c2 : Nat) (w : World) (h1 : RowAt 2 extE w a1 xs) (h2 : RowAt 2 extE w a2 ys) (hn : xs.length ≤ 100000) (hm : ys.length ≤ 100000) :
    Calls Tryz.prog 94 #[.slice a1 xs.length c1, .slice a2 ys.length c2] w fun e w' => e = .returned (.bool (decide (xs = ys))) ∧ Below w.heap.size w w' := by
  have HX1 := Lib.hid h1
  have HX2 := Lib.hid h2
  obtain ⟨n, hN⟩ : ∃ n, xs.length = n := ⟨_, rfl⟩
  obtain ⟨m, hM⟩ : ∃ n, ys.length = n := ⟨_, rfl⟩
  have HN := Lib.hid hN
  have HM := Lib.hid hM
  have HNB : Hid (n ≤ 100000) := by rw [← hN]; exact hn
  rw [hN, hM]
  by_cases hne : n = m
  rotate_left
  · have HF : Hid (decide (xs = ys) = false) := by
      show _ = _
      rw [decide_eq_false_iff_not]
      intro e
      exact hne (by rw [← hN, ← hM, e])
    rw [HF.out]
    have g1 : ¬ (n : Int) = (m : Int) := by omega
    have g2 : ((n : Int) != (m : Int)) = true := bne_iff_ne.2 g1
    clear h1 h2 hN hM hne
    go_enter Tryz.func94, Tryz.ntmps94
    go_wp2_with fail
    go_ret
    exact ⟨rfl, Below.refl _ _⟩
  · subst hne
    have g2 : ((n : Int) != (n : Int)) = false := by rw [bne_self_eq_false]
    clear h1 h2 hN hM
    go_enter Tryz.func94, Tryz.ntmps94
    go_wp2_with fail
    go_loopw [13] (fun i wr => ∃ k : Nat, k ≤ n ∧ i = .int .i64 (k : Int) ∧ xs.take k = ys.take k ∧ Below w.heap.size w wr) (fun i _ => n - (intOf i).toNat)
    case atStart => exact ⟨0, Nat.zero_le _, rfl, rfl, Below.refl _ _⟩
    case round =>
      obtain ⟨k, hk, rfl, htk, hb⟩ := hrel
      have HB := Lib.hid hb
      have HTK := Lib.hid htk
      have WK := Lib.hid (next_int k (by have := HNB.out; omega))
      clear hb htk
      by_cases hkn : k < n
      · have hki : (k : Int) < (n : Int) := by omega
        have HK1 : Hid (k + 1 ≤ n) := by show _ ≤ _; omega
        obtain ⟨x, hp⟩ : ∃ x, xs[k]? = some x := ⟨_, List.getElem?_eq_getElem (by rw [HN.out]; omega)⟩
        obtain ⟨y, hq⟩ : ∃ x, ys[k]? = some x := ⟨_, List.getElem?_eq_getElem (by rw [HM.out]; omega)⟩
        rcases HX1.out with h0 | ⟨b, off, rfl, hbl, hc⟩
        · rw [HN.out] at h0; omega
        rcases HX2.out with h0 | ⟨b2, off2, rfl, hbl2, hc2⟩
        · rw [HM.out] at h0; omega
        have HBD : Hid (Below w.heap.size w wr.drew) := HB.out.drew
        have HR1 : Hid (wr.drew.rangeAt b (off + k * 2) (extE x)) := range_below (hc k x hp) HBD.out hbl
        have HR2 : Hid (wr.drew.rangeAt b2 (off2 + k * 2) (extE y)) := range_below (hc2 k y hq) HBD.out hbl2
        have HP := Lib.hid hp
        have HQ := Lib.hid hq
        clear hp hq hbl hc hbl2 hc2 hkn
        by_cases hxy : x = y
        · have HNE : Hid (∀ W, (binOp .neq 79 (.agg (extE x).toArray) (.agg (extE y).toArray)).run Tryz.prog W = .ok (.bool false) W) := fun W => by rw [neqs_xext, decide_eq_true hxy]; rfl
          have HTN : Hid (xs.take (k + 1) = ys.take (k + 1)) := by show _ = _; rw [List.take_add_one, List.take_add_one, HP.out, HQ.out, HTK.out, hxy]
          clear hxy
          go_wp2_with fail
          refine wp_region_noPanic ?_
          refine wp_region_held_drew (S := fun W => W.rangeAt b (off + k * 2) (extE x) ∧ W.rangeAt b2 (off2 + k * 2) (extE y)) (by kernel_rfl) ?_ (fun hHeld => ?_)
          · exact ⟨HR1.out, HR2.out⟩
          refine tkV 0 (v := ?_) (hw := ?_) (h := ?_)
          rotate_left
          · intro W hSW
            go_simp
            try with_reducible rfl
          try simp only [Act.put, List.setIfInBounds_toArray, List.set_cons_zero, List.set_cons_succ]
          refine tkV 1 (v := ?_) (hw := ?_) (h := ?_)
          rotate_left
          · intro W hSW
            go_simp
            try with_reducible rfl
          try simp only [Act.put, List.setIfInBounds_toArray, List.set_cons_zero, List.set_cons_succ]
          refine tkV 2 (v := ?_) (hw := ?_) (h := ?_)
          rotate_left
          · intro W hSW
            go_simp
            try with_reducible rfl
          try simp only [Act.put, List.setIfInBounds_toArray, List.set_cons_zero, List.set_cons_succ]
          refine tkY 3 (hy := (yieldsIf_load_mid (by rfl) 79 _ rfl b (off + k * 2) rfl (extE x) _ (fun W hSW => hSW.1) Tryz.underlying79 rfl (info_ext x))) (h := ?_)
          try simp only [Act.put, List.setIfInBounds_toArray, List.set_cons_zero, List.set_cons_succ]
          refine tkV 4 (v := ?_) (hw := ?_) (h := ?_)
          rotate_left
          · intro W hSW
            go_simp
            try with_reducible rfl
          try simp only [Act.put, List.setIfInBounds_toArray, List.set_cons_zero, List.set_cons_succ]
          refine tkV 5 (v := ?_) (hw := ?_) (h := ?_)
          rotate_left
          · intro W hSW
            go_simp
            try with_reducible rfl
          try simp only [Act.put, List.setIfInBounds_toArray, List.set_cons_zero, List.set_cons_succ]
          refine tkV 6 (v := ?_) (hw := ?_) (h := ?_)
          rotate_left
          · intro W hSW
            go_simp
            try with_reducible rfl
          try simp only [Act.put, List.setIfInBounds_toArray, List.set_cons_zero, List.set_cons_succ]
          refine tkY 7 (hy := (yieldsIf_load_mid (by rfl) 79 _ rfl b2 (off2 + k * 2) rfl (extE y) _ (fun W hSW => hSW.2) Tryz.underlying79 rfl (info_ext y))) (h := ?_)
          try simp only [Act.put, List.setIfInBounds_toArray, List.set_cons_zero, List.set_cons_succ]
          refine tkY 8 (hy := (yieldsIf_eql (by rfl) .neq 79 _ _ _ rfl (.agg (extE x).toArray) (.agg (extE y).toArray) rfl rfl (.bool false) (fun W => guardn_xext _ _ _ _ W) (fun W => HNE.out W))) (h := ?_)
          try simp only [Act.put, List.setIfInBounds_toArray, List.set_cons_zero, List.set_cons_succ]
          refine wpAnyH_done (by kernel_rfl) ?_ _
          refine NoPanic.normal ?_
          clear hHeld
          go_wp2_with fail
          try rw [WK.out ((k : Int) + 1) rfl]
          exact ⟨⟨k + 1, HK1.out, rfl, HTN.out, HBD.out⟩, by simp [intOf]; have := HK1.out; omega⟩
        · have HNE : Hid (∀ W, (binOp .neq 79 (.agg (extE x).toArray) (.agg (extE y).toArray)).run Tryz.prog W = .ok (.bool true) W) := fun W => by rw [neqs_xext, decide_eq_false hxy]; rfl
          have HF : Hid (decide (xs = ys) = false) := by
            show _ = _
            rw [decide_eq_false_iff_not]
            intro e
            have h3 := HP.out
            rw [e, HQ.out] at h3
            exact hxy (Option.some.inj h3).symm
          clear hxy
          go_wp2_with fail
          refine wp_region_noPanic ?_
          refine wp_region_held_drew (S := fun W => W.rangeAt b (off + k * 2) (extE x) ∧ W.rangeAt b2 (off2 + k * 2) (extE y)) (by kernel_rfl) ?_ (fun hHeld => ?_)
          · exact ⟨HR1.out, HR2.out⟩
          refine tkV 0 (v := ?_) (hw := ?_) (h := ?_)
          rotate_left
          · intro W hSW
            go_simp
            try with_reducible rfl
          try simp only [Act.put, List.setIfInBounds_toArray, List.set_cons_zero, List.set_cons_succ]
          refine tkV 1 (v := ?_) (hw := ?_) (h := ?_)
          rotate_left
          · intro W hSW
            go_simp
            try with_reducible rfl
          try simp only [Act.put, List.setIfInBounds_toArray, List.set_cons_zero, List.set_cons_succ]
          refine tkV 2 (v := ?_) (hw := ?_) (h := ?_)
          rotate_left
          · intro W hSW
            go_simp
            try with_reducible rfl
          try simp only [Act.put, List.setIfInBounds_toArray, List.set_cons_zero, List.set_cons_succ]
          refine tkY 3 (hy := (yieldsIf_load_mid (by rfl) 79 _ rfl b (off + k * 2) rfl (extE x) _ (fun W hSW => hSW.1) Tryz.underlying79 rfl (info_ext x))) (h := ?_)
          try simp only [Act.put, List.setIfInBounds_toArray, List.set_cons_zero, List.set_cons_succ]
          refine tkV 4 (v := ?_) (hw := ?_) (h := ?_)
          rotate_left
          · intro W hSW
            go_simp
            try with_reducible rfl
          try simp only [Act.put, List.setIfInBounds_toArray, List.set_cons_zero, List.set_cons_succ]
          refine tkV 5 (v := ?_) (hw := ?_) (h := ?_)
          rotate_left
          · intro W hSW
            go_simp
            try with_reducible rfl
          try simp only [Act.put, List.setIfInBounds_toArray, List.set_cons_zero, List.set_cons_succ]
          refine tkV 6 (v := ?_) (hw := ?_) (h := ?_)
          rotate_left
          · intro W hSW
            go_simp
            try with_reducible rfl
          try simp only [Act.put, List.setIfInBounds_toArray, List.set_cons_zero, List.set_cons_succ]
          refine tkY 7 (hy := (yieldsIf_load_mid (by rfl) 79 _ rfl b2 (off2 + k * 2) rfl (extE y) _ (fun W hSW => hSW.2) Tryz.underlying79 rfl (info_ext y))) (h := ?_)
          try simp only [Act.put, List.setIfInBounds_toArray, List.set_cons_zero, List.set_cons_succ]
          refine tkY 8 (hy := (yieldsIf_eql (by rfl) .neq 79 _ _ _ rfl (.agg (extE x).toArray) (.agg (extE y).toArray) rfl rfl (.bool true) (fun W => guardn_xext _ _ _ _ W) (fun W => HNE.out W))) (h := ?_)
          try simp only [Act.put, List.setIfInBounds_toArray, List.set_cons_zero, List.set_cons_succ]
          refine wpAnyH_done (by kernel_rfl) ?_ _
          refine NoPanic.normal ?_
          clear hHeld
          go_wp2_with fail
          (try simp only [Exit.inBlock, Exit.then])
          go_ret
          exact ⟨by rw [HF.out] <;> rfl, HBD.out⟩
      · have hki : ¬ (k : Int) < (n : Int) := by omega
        have HF : Hid (decide (xs = ys) = true) := by
          show _ = _
          rw [decide_eq_true_eq]
          have h3 := HTK.out
          rwa [List.take_of_length_le (by rw [HN.out]; omega), List.take_of_length_le (by rw [HM.out]; omega)] at h3
        clear hkn hk
        go_wp2_with fail
        go_ret
        exact ⟨by rw [HF.out] <;> rfl, HB.out⟩
end Go.Proofs.YtkpiinjhcckhfaaGreatDoor
