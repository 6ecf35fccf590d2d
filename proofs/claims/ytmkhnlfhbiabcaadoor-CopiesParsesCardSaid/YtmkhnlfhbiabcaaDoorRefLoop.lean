/- The document's Parse of a copy, where one is told: the loop (under way). -/
import Derived.Test.YtmkhnlfhbiabcaaDoorRefParses
namespace Go.Proofs.YtmkhnlfhbiabcaaDoor
open Go.RowKit Plain Go.ChangeShapes Go.WideShapes Go.ChangeAt
set_option linter.unusedVariables false
set_option linter.unusedSimpArgs false
theorem rpart_node (w : World) (p : ByteArray) (id : List Int) (h : id.length = 20) : (part 23 (fromA p id) 1).run Tryd.prog w = .ok (.agg (V8 id)) w := by
  have hagg : (isAgg 23).run Tryd.prog w = .ok true w := by kernel_rfl
  obtain ⟨i, hi, h1⟩ := Option.map_eq_some_iff.1 (show (Tryd.prog.info? 23).map (·.size) = some 20 from by kernel_rfl)
  have e : (fromA p id).extract 1 (1 + 20) = V8 id := by
    apply Array.ext'
    have h2 : (List.map (Value.int .u8) id).length = 20 := by rw [List.length_map]; exact h
    simp only [fromA, V8]
    simp
    rw [List.take_of_length_le (by rw [List.length_map]; omega)]
  simp [part, hagg, sizeOf, typeInfo, hi, h1, e]
theorem rfields_from : ∃ f1 f2, (Tryd.prog.fieldsOf 25).toList = [f1, f2] ∧ f1.name ≠ "_" ∧ f2.name ≠ "_" ∧ f1.type = 9 ∧ f1.offset = 0 ∧ f2.type = 23 ∧ f2.offset = 1 := by
  have h : (Tryd.prog.fieldsOf 25).toList.map (fun f => (f.name == "_", f.type, f.offset)) = [(false, 9, 0), (false, 23, 1)] := by kernel_rfl
  generalize (Tryd.prog.fieldsOf 25).toList = l at *
  match l, h with
  | [], h => cases h
  | [_], h => simp at h
  | _ :: _ :: _ :: _, h => simp at h
  | [f1, f2], h =>
    simp only [List.map_cons, List.map_nil, List.cons.injEq, Prod.mk.injEq, and_true, beq_eq_false_iff_ne] at h
    exact ⟨f1, f2, rfl, h.1.1, h.2.1, h.1.2.1, h.1.2.2, h.2.2.1, h.2.2.2⟩
theorem requal_from (w : World) (d : Nat) (X Y : Array Value) (p q : ByteArray) (id jd : List Int) (hp : id.length = 20) (hq : jd.length = 20)
    (x1 : (part 9 X 0).run Tryd.prog w = .ok (.string p) w) (y1 : (part 9 Y 0).run Tryd.prog w = .ok (.string q) w)
    (x2 : (part 23 X 1).run Tryd.prog w = .ok (.agg (V8 id)) w) (y2 : (part 23 Y 1).run Tryd.prog w = .ok (.agg (V8 jd)) w) :
    (Op.equalIn (d + 4) 25 (.agg X) (.agg Y)).run Tryd.prog w = .ok (p.toList == q.toList && id == jd) w := by
  obtain ⟨f1, f2, hf, n1, n2, t1, o1, t2, o2⟩ := rfields_from
  rw [run_equalIn_struct w (d + 3) 25 X Y Tryd.underlying25 (by kernel_rfl), hf]
  exact eqFields_two Tryd.prog w (d + 3) X Y f1 f2 _ _ _ _ _ _ n1 n2 (by rw [t1, o1]; exact x1) (by rw [t1, o1]; exact y1) (by rw [t2, o2]; exact x2) (by rw [t2, o2]; exact y2)
    (by rw [t1]; exact run_equalIn_string w (d + 2) 9 p q Tryd.underlying9) (by rw [t2]; exact run_equalIn_arr8 w (d + 1) 23 20 Tryd.underlying23 _ _ hp hq)
theorem rguard_fromn (x y : Operand) (A B : Array Value) (W : World) : (eqGuard .neq 25 x y (.agg A) (.agg B)).run Tryd.prog W = .ok () W := by
  have h : Tryd.prog.eqGuardType Tryd.prog.depth 25 = false := by kernel_rfl
  simp [eqGuard, h]
theorem rpart_str (w : World) (p : ByteArray) (id : List Int) : (part 9 (fromA p id) 0).run Tryd.prog w = .ok (.string p) w := part_str w p id
theorem rneq_from (w : World) (p q : ByteArray) (id jd : List Int) (hp : id.length = 20) (hq : jd.length = 20) : (binOp .neq 25 (.agg (fromA p id)) (.agg (fromA q jd))).run Tryd.prog w = .ok (.bool (!(p.toList == q.toList && id == jd))) w := by
  rw [run_neq_struct]
  have e := requal_from w 9996 _ _ p q id jd hp hq (part_str w p id) (part_str w q jd) (rpart_node w p id hp) (rpart_node w q jd hq)
  rw [show (9996 + 4 : Nat) = 10000 from rfl] at e
  rw [e]
  rfl
theorem v8_range {w : World} {g : Nat} {id : List Int} {t : TypeId} {fr : Nat × Nat} (R : w.heap[g]? = some (.cells (V8 id) t fr)) : w.rangeAt g 0 (id.map (Value.int .u8)) := fun j v hj => by
  rw [cell_of_row _ _ _ _ _ _ R, ← hj, Nat.zero_add]
  simp [V8]
theorem hit_short {s : ByteArray} {k : Nat} (h : ¬ k + 53 ≤ s.size) : hitAt (numsOf s) k = false := by
  unfold hitAt
  rw [numsOf_length, decide_eq_false h]
  simp
theorem hit_other {s : ByteArray} {k : Nat} (h : (numsOf s)[k]? ≠ some 10) : hitAt (numsOf s) k = false := by
  unfold hitAt
  rw [beq_eq_false_iff_ne.2 h]
  simp
theorem hitP_ext (s : ByteArray) (k : Nat) : hitP (numsOf s) k = s.extract 8 k := by
  unfold hitP
  rw [← ext_nums, str_nums]
theorem hitH_ext (s : ByteArray) (k : Nat) : hitH (numsOf s) k = s.extract (k + 10) (k + 50) := by
  unfold hitH
  rw [show (40 : Nat) = (k + 50) - (k + 10) by omega, ← ext_nums, str_nums]
theorem hitV_ext (s : ByteArray) (k : Nat) : hitV (numsOf s) k = numsOf (s.extract (k + 53) s.size) := by
  unfold hitV
  rw [ext_tail]
theorem hit_val (s : ByteArray) (k : Nat) : hitAt (numsOf s) k = ((numsOf s)[k]? == some 10 && decide (k + 53 ≤ s.size) && isHex (hitH (numsOf s) k) && (refPrintB (s.extract (k + 53) s.size) (hitP (numsOf s) k) (parsed (hitH (numsOf s) k))).map numsOf == some (numsOf s) && !noFrom (hitP (numsOf s) k) (parsed (hitH (numsOf s) k))) := by
  unfold hitAt
  rw [numsOf_length, hitV_ext, print_same]
theorem nums_inj {s t : ByteArray} (h : numsOf s = numsOf t) : s = t := by
  have := congrArg strOfNums h
  rw [str_nums, str_nums] at this
  exact this
theorem miss_text {t s : ByteArray} {B1 B2 B3 B4 : Bool} (h : (t.data.toList == s.data.toList) = false) : (B1 && B2 && B3 && Option.map numsOf (if true = true then some t else none) == some (numsOf s) && B4) = false := by
  have hn : numsOf t ≠ numsOf s := fun e => by
    rw [nums_inj e, beq_self_eq_true] at h; cases h
  have : (Option.map numsOf (if true = true then some t else none) == some (numsOf s)) = false := by
    rw [if_pos rfl]
    simp [hn]
  rw [this]; simp
theorem same_text {t s : ByteArray} (h : (t.data.toList == s.data.toList) = true) : (Option.map numsOf (if true = true then some t else none) == some (numsOf s)) = true := by
  have h1 : t.data = s.data := Array.toList_inj.1 (beq_iff_eq.1 h)
  have h2 : t = s := ByteArray.ext h1
  rw [h2, if_pos rfl]; simp
theorem printR_val {e : Ending} {o : Option ByteArray} (h : PrintR e o) : ∃ t b, e = .returned (.tuple #[.string t, .bool b]) ∧ o = if b then some t else none := by
  cases o with
  | none => exact ⟨⟨#[]⟩, false, h, rfl⟩
  | some t => exact ⟨t, true, h, rfl⟩
set_option maxRecDepth 100000 in
set_option maxHeartbeats 32000000 in
theorem refParse3 (s : ByteArray) (w : World) (hs : s.size ≤ 100000) (hbg : beginsT s = true) (hbg2 : beginsT (s.extract 2 s.size) = false) :
    Calls Tryd.prog 14 #[.string s] w fun e w' => RefOut e (parseL (numsOf s)) ∧ Below w.heap.size w w' := by
  have hzf := zero_rfrom
  have h2 : 2 ≤ s.size := by
    rcases Nat.lt_or_ge 1 s.size with h | h
    · exact h
    · rw [begins_short s (by omega)] at hbg; cases hbg
  have hsl2 := fun W => slice_tail s 2 h2 2 rfl W
  have HNO : Hid ((∀ i, 8 ≤ i → i < s.size → hitAt (numsOf s) i = false) → parseL (numsOf s) = none) := fun h =>
    no_hit (numsOf_bytes s) (by rw [pre_begins]; exact hbg) (by rw [← ext_tail, pre_begins]; exact hbg2) (by rw [numsOf_length]; exact h)
  have HBG := Lib.hid hbg
  have HBG2 := Lib.hid hbg2
  have HSZ := Lib.hid hs
  have HF0 : Hid ((w.alloc (.cells (fromA ⟨#[]⟩ zeros20) 25)).heap[w.heap.size]? = some (.cells (fromA ⟨#[]⟩ zeros20) 25 (0, 0))) := heap_alloc_new _ _
  have HB0 : Hid (Below w.heap.size w (w.alloc (.cells (fromA ⟨#[]⟩ zeros20) 25))) := (Below.refl _ _).alloc (Nat.le_refl _) _
  have HI : Hid ((Tryd.prog.info? 25).map (·.size) = some (fromA ⟨#[]⟩ zeros20).size) := rfrom_info _ _ rfl
  clear hbg hbg2 h2 hs
  generalize s.extract 2 s.size = s2 at *
  go_enter Tryd.func14, Tryd.ntmps14
  go_wp2_with fail
  clear hzf
  generalize w.alloc (.cells (fromA ⟨#[]⟩ zeros20) 25) = w0 at *
  refine (begins_any s w0).mono ?_
  rintro e w1 ⟨rfl, hb⟩
  rw [HBG.out]
  have HB1 := Lib.hid (HB0.out.trans (hb.mono HB0.out.size))
  have HF1 := Lib.hid (row_stay HF0.out hb)
  clear hb HB0 HF0
  go_wp2_with fail
  refine (begins_any s2 w1).mono ?_
  rintro e w2 ⟨rfl, hb⟩
  rw [HBG2.out]
  have HB2 := Lib.hid (HB1.out.trans (hb.mono HB1.out.size))
  have HF2 := Lib.hid (row_stay HF1.out hb)
  clear hb HB1 HF1 hsl2
  go_wp2_with fail
  go_loopw [7] (fun i wr => ∃ k : Nat, 8 ≤ k ∧ k ≤ max 8 s.size ∧ i = .int .i64 (k : Int) ∧ (∀ j, 8 ≤ j → j < k → hitAt (numsOf s) j = false) ∧ wr.heap[w.heap.size]? = some (.cells (fromA ⟨#[]⟩ zeros20) 25 (0, 0)) ∧ Below w.heap.size w wr) (fun i _ => max 8 s.size - (intOf i).toNat)
  case atStart => exact ⟨8, by omega, by omega, rfl, fun j h1 h2 => by omega, HF2.out, HB2.out⟩
  case round =>
    obtain ⟨k, hk8, hkm, rfl, hno, hf, hbw⟩ := hrel
    have HNK := Lib.hid hno
    have HFW := Lib.hid hf
    have HBW := Lib.hid hbw
    have WK := Lib.hid (next_int k (by have := HSZ.out; omega) _ rfl)
    have HK8 := Lib.hid hk8
    have HKM := Lib.hid hkm
    clear hno hf hbw hk8 hkm HF2 HB2
    have hext : ∀ b, hitAt (numsOf s) k = b → b = false → ∀ j, 8 ≤ j → j < k + 1 → hitAt (numsOf s) j = false := fun b h1 h2 j h3 h4 => by
      rcases Nat.lt_or_ge j k with h | h
      · exact HNK.out j h3 h
      · rw [show j = k by omega, h1, h2]
    by_cases hkn : k < s.size
    · have hki : (k : Int) < (s.size : Int) := by omega
      have hix := fun W => index_text s k hkn (k : Int) rfl W
      rw [at8_is s k hkn] at hix
      have hxk : (numsOf s)[k]? = some (((s[k]'hkn).toNat : Nat) : Int) := by
        unfold numsOf
        rw [List.getElem?_map, List.getElem?_eq_getElem (by rw [← Lib.size_eq]; exact hkn)]
        rfl
      generalize (s[k]'hkn).toNat = c at *
      by_cases hc : c = 10
      · subst hc
        have wd : wrap64 ((s.size : Int) - (k : Int)) = ((s.size - k : Nat) : Int) := by
          rw [show (s.size : Int) - (k : Int) = ((s.size - k : Nat) : Int) by omega]
          exact IntWalk.wrap64_in _ (by have := HSZ.out; omega)
        by_cases hd : k + 53 ≤ s.size
        · have hdi : ¬ ((s.size - k : Nat) : Int) < 53 := by omega
          have w10 : wrap64 ((k : Int) + 10) = ((k + 10 : Nat) : Int) := by
            rw [show (k : Int) + 10 = ((k + 10 : Nat) : Int) by omega]
            exact IntWalk.wrap64_in _ (by have := HSZ.out; omega)
          have w50 : wrap64 ((k : Int) + 50) = ((k + 50 : Nat) : Int) := by
            rw [show (k : Int) + 50 = ((k + 50 : Nat) : Int) by omega]
            exact IntWalk.wrap64_in _ (by have := HSZ.out; omega)
          have hsh := fun W => slice_text s (k + 10) (k + 50) (by omega) (by omega) _ rfl W
          rw [← hitH_ext s k] at hsh
          have HHS : Hid ((hitH (numsOf s) k).size ≤ 9223372036854775807) := by
            show _ ≤ _
            rw [hitH_ext]; simp; have := HSZ.out; omega
          obtain ⟨n10, hn10⟩ : ∃ n, k + 10 = n := ⟨_, rfl⟩
          obtain ⟨n50, hn50⟩ : ∃ n, k + 50 = n := ⟨_, rfl⟩
          simp only [hn10, hn50] at w10 w50 hsh
          have hxk0 := hxk
          clear hn10 hn50 hxk
          generalize s.size - k = dd at *
          go_wp2_with fail
          refine (refParse_any _ wr HHS.out).mono ?_
          rintro e w3 ⟨rfl, hb⟩
          have HB3 := Lib.hid (HBW.out.trans (hb.mono HBW.out.size))
          have HF3 := Lib.hid (row_stay HFW.out hb)
          clear hb hsh w10 w50 hix wd hdi
          have HIDL : Hid ((parsed (hitH (numsOf s) k)).length = 20) := parsed_length _
          have HIDB := Lib.hid (parsed_bytes (hitH (numsOf s) k))
          obtain ⟨id, hid⟩ : ∃ i, parsed (hitH (numsOf s) k) = i := ⟨_, rfl⟩
          obtain ⟨ok, hok⟩ : ∃ i, isHex (hitH (numsOf s) k) = i := ⟨_, rfl⟩
          rw [hid] at HIDL HIDB ⊢
          rw [hok]
          have HIDE := Lib.hid hid
          have HOKE := Lib.hid hok
          clear hid hok
          have HAI : Hid ((Tryd.prog.info? 23).map (·.size) = some (V8 id).size) := by
            show _ = _
            rw [V8_size, HIDL.out]; kernel_rfl
          have HVS : Hid ((V8 zeros20).size = (V8 id).size) := by show _ = _; rw [V8_size, V8_size, HIDL.out]; rfl
          have HZN : Hid ((w3.alloc (.cells (V8 zeros20) 23)).heap[w3.heap.size]? = some (.cells (V8 zeros20) 23 (0, 0))) := heap_alloc_new _ _
          have hb4 : Below w3.heap.size w3 ((w3.alloc (.cells (V8 zeros20) 23)).setRow w3.heap.size (V8 id)) := below_setRow ((Below.refl _ _).alloc (Nat.le_refl _) _) (Nat.le_refl _) _
          have HB4 := Lib.hid (HB3.out.trans (hb4.mono HB3.out.size))
          have HF4 := Lib.hid (row_stay HF3.out hb4)
          have HD4 := Lib.hid (setRow_heap _ _ _ (V8 id) _ _ HZN.out)
          have HL4 : Hid (w3.heap.size < ((w3.alloc (.cells (V8 zeros20) 23)).setRow w3.heap.size (V8 id)).heap.size) := by show _ < _; rw [size_setRow]; simp
          have HIL : Hid ((Tryd.prog.info? 23).map (·.size) = some (id.map (Value.int .u8)).length) := by
            show _ = _
            rw [List.length_map, HIDL.out]; kernel_rfl
          have hz24 := zero_24
          clear hb4
          go_wp2_with (first
            | refine wpList_store_row rfl 23 _ _ rfl w3.heap.size (V8 id) rfl rfl 23 (V8 zeros20) HZN.out HAI.out HVS.out (V8_one _) ?_)
          clear hz24 HZN HF3 HB3
          generalize (w3.alloc (.cells (V8 zeros20) 23)).setRow w3.heap.size (V8 id) = w4 at *
          have hsp : ∀ W, (Instr.slice 9 (.string s) (some (.int .i64 8)) (some (.int .i64 (k : Int))) none).run Tryd.prog W = .ok (.string (s.extract 8 k)) W := fun W => slice_text s 8 k HK8.out (by omega) _ rfl W
          rw [← hitP_ext s k] at hsp
          obtain ⟨p, hp⟩ : ∃ p, hitP (numsOf s) k = p := ⟨_, rfl⟩
          rw [hp] at hsp
          have HPE := Lib.hid hp
          clear hp
          have HRI := Lib.hid (rfrom_info p id HIDL.out)
          have HRS : Hid ((fromA ⟨#[]⟩ zeros20).size = (fromA p id).size) := by show _ = _; rw [fromA_size, fromA_size, HIDL.out]; rfl
          have hzf := zero_rfrom
          refine wp_region_noPanic ?_
          refine wp_region_held_drew (S := fun W => W.heap[w3.heap.size]? = some (.cells (V8 id) 23 (0, 0))) (by kernel_rfl) ?_ (fun hHeld => ?_)
          · exact HD4.out
          refine wpAnyH_take (i := 0) (v := ?_) (by simp only [List.getElem?_toArray, List.getElem?_cons_zero]; rfl) (by kernel_rfl) (by kernel_rfl) (by kernel_rfl) (fun _ _ _ h => h) (Or.inl ⟨by rfl, ?_⟩) (by assumption) ?_
          rotate_left
          · intro W hSW
            go_simp
            try with_reducible rfl
          try simp only [Act.put, List.setIfInBounds_toArray, List.set_cons_zero, List.set_cons_succ]
          refine wpAnyH_take (i := 1) (v := ?_) (by simp only [List.getElem?_toArray, List.getElem?_cons_succ, List.getElem?_cons_zero]; rfl) (by kernel_rfl) (by kernel_rfl) (by kernel_rfl) (fun _ _ _ h => h) (Or.inl ⟨by rfl, ?_⟩) (by assumption) ?_
          rotate_left
          · intro W hSW
            go_simp
            try with_reducible rfl
          try simp only [Act.put, List.setIfInBounds_toArray, List.set_cons_zero, List.set_cons_succ]
          refine wpAnyH_take (i := 2) (v := ?_) (by simp only [List.getElem?_toArray, List.getElem?_cons_succ, List.getElem?_cons_zero]; rfl) (by kernel_rfl) (by kernel_rfl) (by kernel_rfl) (fun _ _ _ h => h) (Or.inl ⟨by rfl, ?_⟩) (by assumption) ?_
          rotate_left
          · intro W hSW
            go_simp
            try with_reducible rfl
          try simp only [Act.put, List.setIfInBounds_toArray, List.set_cons_zero, List.set_cons_succ]
          refine wpAnyH_take (i := 3) (by simp only [List.getElem?_toArray, List.getElem?_cons_succ, List.getElem?_cons_zero]; rfl) (by kernel_rfl) (by kernel_rfl) (by kernel_rfl) (fun _ _ _ h => h) (yieldsIf_load_mid (by rfl) 23 _ rfl w3.heap.size 0 rfl (id.map (Value.int .u8)) (.array 20 5) (fun W hSW => v8_range hSW) Tryd.underlying23 rfl HIL.out) (by assumption) ?_
          try simp only [Act.put, List.setIfInBounds_toArray, List.set_cons_zero, List.set_cons_succ]
          refine wpAnyH_take (i := 4) (by simp only [List.getElem?_toArray, List.getElem?_cons_succ, List.getElem?_cons_zero]; rfl) (by kernel_rfl) (by kernel_rfl) (by kernel_rfl) (fun _ _ _ h => h) (yieldsIf_build2 (by rfl) 25 _ _ rfl (.string p) (.agg (V8 id)) (by rfl) (by rfl) (.agg (fromA p id)) (build_rfrom p id HIDL.out)) (by assumption) ?_
          try simp only [Act.put, List.setIfInBounds_toArray, List.set_cons_zero, List.set_cons_succ]
          refine wpAnyH_ready (rs := [5]) (by kernel_rfl) (by simp) ?_
          refine AllReadyH.cons (by simp only [List.getElem?_toArray, List.getElem?_cons_succ, List.getElem?_cons_zero]; rfl) (fun K hK => ?_) AllReadyH.nil
          go_simp
          refine hK.out _ _ ((row_stay (w := w4.drew) HD4.out ((Below.refl _ _).alloc (Nat.le_refl _) _))) (fun hHeld2 => ?_)
          clear hK K hHeld
          have hHeld := hHeld2
          clear hHeld2
          try simp only [Act.put, List.setIfInBounds_toArray, List.set_cons_zero, List.set_cons_succ]
          refine wpAnyH_ready (rs := [6]) (by kernel_rfl) (by simp) ?_
          refine AllReadyH.cons (by simp only [List.getElem?_toArray, List.getElem?_cons_succ, List.getElem?_cons_zero]; rfl) (fun K hK => ?_) AllReadyH.nil
          refine step_store_row (by rfl) 25 _ _ (by rfl) w4.heap.size (fromA p id) (by rfl) (by rfl) 25 (fromA ⟨#[]⟩ zeros20) (heap_alloc_new w4.drew _) HRI.out HRS.out (fromA_one _ _) ?_
          refine hK.out _ _ ((setRow_other _ _ _ _ (Nat.ne_of_lt HL4.out)).trans (row_stay (w := w4.drew) HD4.out ((Below.refl _ _).alloc (Nat.le_refl _) _))) (fun hHeld2 => ?_)
          clear hK K hHeld
          have hHeld := hHeld2
          clear hHeld2
          try simp only [Act.put, List.setIfInBounds_toArray, List.set_cons_zero, List.set_cons_succ]
          refine wpAnyH_done (by kernel_rfl) ?_ _
          refine NoPanic.normal ?_
          have hb5 : Below w4.heap.size w4 ((w4.alloc (.cells (fromA ⟨#[]⟩ zeros20) 25)).drew.setRow w4.heap.size (fromA p id)) := below_setRow (((Below.refl _ _).alloc (Nat.le_refl _) _).drew) (Nat.le_refl _) _
          have HB5 := Lib.hid (HB4.out.trans (hb5.mono HB4.out.size))
          have HF5 := Lib.hid (row_stay HF4.out hb5)
          have HG5 : Hid (((w4.alloc (.cells (fromA ⟨#[]⟩ zeros20) 25)).drew.setRow w4.heap.size (fromA p id)).heap[w4.heap.size]? = some (.cells (fromA p id) 25 (0, 0))) := setRow_heap _ _ _ (fromA p id) _ _ (heap_alloc_new w4 (.cells (fromA ⟨#[]⟩ zeros20) 25))
          have HLW : Hid (w.heap.size < w4.heap.size) := (Array.getElem?_eq_some_iff.1 HF4.out).1
          clear hb5 hHeld hzf hsp HF4 HB4
          generalize (w4.alloc (.cells (fromA ⟨#[]⟩ zeros20) 25)).drew.setRow w4.heap.size (fromA p id) = w5 at *
          have w53 : wrap64 ((k : Int) + 53) = ((k + 53 : Nat) : Int) := by
            rw [show (k : Int) + 53 = ((k + 53 : Nat) : Int) by omega]
            exact IntWalk.wrap64_in _ (by have := HSZ.out; omega)
          have m53 : IntKind.i64.wrap ((k : Int) + 53) = ((k + 53 : Nat) : Int) := by
            rw [show (k : Int) + 53 = ((k + 53 : Nat) : Int) by omega]
            exact IntWalk.i64_in _ (by have := HSZ.out; omega)
          have hsv := fun W => slice_tail s (k + 53) hd _ rfl W
          obtain ⟨v, hv⟩ : ∃ v, s.extract (k + 53) s.size = v := ⟨_, rfl⟩
          rw [hv] at hsv
          have HVZ : Hid (v.size ≤ 10000000) := by show _ ≤ _; rw [← hv]; simp; have := HSZ.out; omega
          have HVE := Lib.hid hv
          have hval := hit_val s k
          rw [hv] at hval
          clear hv
          obtain ⟨n53, hn53⟩ : ∃ n, k + 53 = n := ⟨_, rfl⟩
          simp only [hn53] at w53 m53 hsv
          clear hn53
          have HRL : Hid ((Tryd.prog.info? 25).map (·.size) = some (Value.string p :: id.map (Value.int .u8)).length) := by
            show _ = _
            rw [HRI.out, fromA_size]; simp
          have HVAL := Lib.hid hval
          have HEXT := Lib.hid hext
          have HXK := Lib.hid hxk0
          have HD := Lib.hid hd
          have HKN := Lib.hid hkn
          clear hval hext hxk0 hd hkn
          go_wp2_with fail
          refine wp_region_noPanic ?_
          refine wp_region_held_drew (S := fun W => W.heap[w4.heap.size]? = some (.cells (fromA p id) 25 (0, 0))) (by kernel_rfl) ?_ (fun hHeld => ?_)
          · exact HG5.out
          refine wpAnyH_take (i := 0) (v := ?_) (by simp only [List.getElem?_toArray, List.getElem?_cons_zero]; rfl) (by kernel_rfl) (by kernel_rfl) (by kernel_rfl) (fun _ _ _ h => h) (Or.inl ⟨by rfl, ?_⟩) (by assumption) ?_
          rotate_left
          · intro W hSW
            go_simp
            try with_reducible rfl
          try simp only [Act.put, List.setIfInBounds_toArray, List.set_cons_zero, List.set_cons_succ]
          refine wpAnyH_take (i := 1) (v := ?_) (by simp only [List.getElem?_toArray, List.getElem?_cons_succ, List.getElem?_cons_zero]; rfl) (by kernel_rfl) (by kernel_rfl) (by kernel_rfl) (fun _ _ _ h => h) (Or.inl ⟨by rfl, ?_⟩) (by assumption) ?_
          rotate_left
          · intro W hSW
            go_simp
            try with_reducible rfl
          try simp only [Act.put, List.setIfInBounds_toArray, List.set_cons_zero, List.set_cons_succ]
          refine wpAnyH_take (i := 2) (v := ?_) (by simp only [List.getElem?_toArray, List.getElem?_cons_succ, List.getElem?_cons_zero]; rfl) (by kernel_rfl) (by kernel_rfl) (by kernel_rfl) (fun _ _ _ h => h) (Or.inl ⟨by rfl, ?_⟩) (by assumption) ?_
          rotate_left
          · intro W hSW
            go_simp
            try with_reducible rfl
          try simp only [Act.put, List.setIfInBounds_toArray, List.set_cons_zero, List.set_cons_succ]
          refine wpAnyH_take (i := 3) (v := ?_) (by simp only [List.getElem?_toArray, List.getElem?_cons_succ, List.getElem?_cons_zero]; rfl) (by kernel_rfl) (by kernel_rfl) (by kernel_rfl) (fun _ _ _ h => h) (Or.inl ⟨by rfl, ?_⟩) (by assumption) ?_
          rotate_left
          · intro W hSW
            go_simp
            try with_reducible rfl
          try simp only [Act.put, List.setIfInBounds_toArray, List.set_cons_zero, List.set_cons_succ]
          refine wpAnyH_take (i := 4) (by simp only [List.getElem?_toArray, List.getElem?_cons_succ, List.getElem?_cons_zero]; rfl) (by kernel_rfl) (by kernel_rfl) (by kernel_rfl) (fun _ _ _ h => h) (yieldsIf_load_mid (by rfl) 25 _ rfl w4.heap.size 0 rfl (Value.string p :: id.map (Value.int .u8)) _ (fun W hSW => row_range hSW) Tryd.underlying25 rfl HRL.out) (by assumption) ?_
          try simp only [Act.put, List.setIfInBounds_toArray, List.set_cons_zero, List.set_cons_succ]
          refine wpAnyH_ready (rs := [5]) (by kernel_rfl) (by simp) ?_
          refine AllReadyH.cons (by simp only [List.getElem?_toArray, List.getElem?_cons_succ, List.getElem?_cons_zero]; rfl) (fun K hK => ?_) AllReadyH.nil
          go_simp
          refine (refPrint_any v p id _ HVZ.out HIDL.out HIDB.out).mono ?_
          rintro e w6 ⟨hpo, hb⟩
          obtain ⟨t, b, rfl, hpb⟩ := printR_val hpo
          have hb6 : Below w5.heap.size w5 w6 := (Below.refl _ _).drew.trans hb
          have HPB := Lib.hid hpb
          have HB6 := Lib.hid (HB5.out.trans (hb6.mono HB5.out.size))
          have HF6 := Lib.hid (row_stay HF5.out hb6)
          have HG6 := Lib.hid (row_stay HG5.out hb6)
          clear hpo hpb hb hb6
          go_wp2_with fail
          refine hK.out _ _ (HG6.out) (fun hHeld2 => ?_)
          clear hK K hHeld
          have hHeld := hHeld2
          clear hHeld2
          try simp only [Act.put, List.setIfInBounds_toArray, List.set_cons_zero, List.set_cons_succ]
          refine wpAnyH_take (i := 6) (v := ?_) (by simp only [List.getElem?_toArray, List.getElem?_cons_succ, List.getElem?_cons_zero]; rfl) (by kernel_rfl) (by kernel_rfl) (by kernel_rfl) (fun _ _ _ h => h) (Or.inl ⟨by rfl, ?_⟩) (by assumption) ?_
          rotate_left
          · intro W hSW
            go_simp
            try with_reducible rfl
          try simp only [Act.put, List.setIfInBounds_toArray, List.set_cons_zero, List.set_cons_succ]
          refine wpAnyH_take (i := 7) (v := ?_) (by simp only [List.getElem?_toArray, List.getElem?_cons_succ, List.getElem?_cons_zero]; rfl) (by kernel_rfl) (by kernel_rfl) (by kernel_rfl) (fun _ _ _ h => h) (Or.inl ⟨by rfl, ?_⟩) (by assumption) ?_
          rotate_left
          · intro W hSW
            go_simp
            try with_reducible rfl
          try simp only [Act.put, List.setIfInBounds_toArray, List.set_cons_zero, List.set_cons_succ]
          refine wpAnyH_take (i := 8) (v := ?_) (by simp only [List.getElem?_toArray, List.getElem?_cons_succ, List.getElem?_cons_zero]; rfl) (by kernel_rfl) (by kernel_rfl) (by kernel_rfl) (fun _ _ _ h => h) (Or.inl ⟨by rfl, ?_⟩) (by assumption) ?_
          rotate_left
          · intro W hSW
            go_simp
            try with_reducible rfl
          try simp only [Act.put, List.setIfInBounds_toArray, List.set_cons_zero, List.set_cons_succ]
          refine wpAnyH_take (i := 9) (v := ?_) (by simp only [List.getElem?_toArray, List.getElem?_cons_succ, List.getElem?_cons_zero]; rfl) (by kernel_rfl) (by kernel_rfl) (by kernel_rfl) (fun _ _ _ h => h) (Or.inl ⟨by rfl, ?_⟩) (by assumption) ?_
          rotate_left
          · intro W hSW
            go_simp
            try with_reducible rfl
          try simp only [Act.put, List.setIfInBounds_toArray, List.set_cons_zero, List.set_cons_succ]
          refine wpAnyH_take (i := 10) (v := ?_) (by simp only [List.getElem?_toArray, List.getElem?_cons_succ, List.getElem?_cons_zero]; rfl) (by kernel_rfl) (by kernel_rfl) (by kernel_rfl) (fun _ _ _ h => h) (Or.inl ⟨by rfl, ?_⟩) (by assumption) ?_
          rotate_left
          · intro W hSW
            go_simp
            try with_reducible rfl
          try simp only [Act.put, List.setIfInBounds_toArray, List.set_cons_zero, List.set_cons_succ]
          refine wpAnyH_done (by kernel_rfl) ?_ _
          refine NoPanic.normal ?_
          cases ok
          ·
            have HX := Lib.hid (HEXT.out _ (by rw [HVAL.out, HIDE.out, HPE.out, HOKE.out, HPB.out]; simp) rfl)
            clear w53 m53 hsv hHeld
            go_wp2_with fail
            exact ⟨⟨k + 1, by have := HK8.out; omega, by have := HKN.out; omega, by rw [WK.out], HX.out, HF6.out, HB6.out⟩, by have := HKN.out; rw [WK.out]; simp [intOf]; omega⟩
          cases b
          ·
            have HX := Lib.hid (HEXT.out _ (by rw [HVAL.out, HIDE.out, HPE.out, HOKE.out, HPB.out]; simp) rfl)
            clear w53 m53 hsv hHeld
            go_wp2_with fail
            exact ⟨⟨k + 1, by have := HK8.out; omega, by have := HKN.out; omega, by rw [WK.out], HX.out, HF6.out, HB6.out⟩, by have := HKN.out; rw [WK.out]; simp [intOf]; omega⟩
          have HEQ := Lib.hid (fun W => str_eql t s W)
          cases hts : (t.data.toList == s.data.toList)
          · rw [hts] at HEQ
            have HX := Lib.hid (HEXT.out _ (by rw [HVAL.out, HIDE.out, HPE.out, HOKE.out, HPB.out]; exact miss_text hts) rfl)
            clear w53 m53 hsv hHeld
            go_wp2_with (first
              | refine wpList_eql rfl .eql 9 _ _ _ rfl (.string t) (.string s) rfl rfl (.bool false) (guard_str _ _ _ _) HEQ.out ?_)
            exact ⟨⟨k + 1, by have := HK8.out; omega, by have := HKN.out; omega, by rw [WK.out], HX.out, HF6.out, HB6.out⟩, by have := HKN.out; rw [WK.out]; simp [intOf]; omega⟩
          rw [hts] at HEQ
          have HNE := Lib.hid (fun W => rneq_from W p ⟨#[]⟩ id zeros20 HIDL.out rfl)
          cases hnf : noFrom p id
          · have HPN : Hid (parseL (numsOf s) = some (numsOf v, p, id)) := by
              have h := hit_parse (xs := numsOf s) (i := k) (by rw [HVAL.out, HIDE.out, HPE.out, HOKE.out, HPB.out, HXK.out, decide_eq_true HD.out, hnf, same_text hts]; rfl)
              rw [HIDE.out, HPE.out, hitV_ext, HVE.out] at h
              exact h
            have HNE2 : Hid (∀ W, (binOp .neq 25 (.agg (fromA p id)) (.agg (fromA ⟨#[]⟩ zeros20))).run Tryd.prog W = .ok (.bool true) W) := fun W => by
              rw [HNE.out W, show (p.toList == (⟨#[]⟩ : ByteArray).toList && id == zeros20) = false from hnf]; rfl
            clear hts hnf HNE HVAL HEXT
            go_wp2_with (first
              | refine wpList_eql rfl .eql 9 _ _ _ rfl (.string t) (.string s) rfl rfl (.bool true) (guard_str _ _ _ _) HEQ.out ?_
              | refine wpList_load_row_g rfl 25 _ rfl w4.heap.size rfl 25 (fromA p id) (0, 0) _ HG6.out Tryd.underlying25 rfl HRI.out ?_
              | refine wpList_build_0 rfl 25 rfl (.agg (fromA ⟨#[]⟩ zeros20)) build_none25 ?_
              | refine wpList_eql rfl .neq 25 _ _ _ rfl (.agg (fromA p id)) (.agg (fromA ⟨#[]⟩ zeros20)) rfl rfl (.bool true) (rguard_fromn _ _ _ _) HNE2.out ?_)
            refine wp_region_noPanic ?_
            refine wp_region_held_drew (S := fun W => W.heap[w4.heap.size]? = some (.cells (fromA p id) 25 (0, 0))) (by kernel_rfl) ?_ (fun hHeld => ?_)
            · exact HG6.out
            refine wpAnyH_take (i := 0) (v := ?_) (by simp only [List.getElem?_toArray, List.getElem?_cons_zero]; rfl) (by kernel_rfl) (by kernel_rfl) (by kernel_rfl) (fun _ _ _ h => h) (Or.inl ⟨by rfl, ?_⟩) (by assumption) ?_
            rotate_left
            · intro W hSW
              go_simp
              try with_reducible rfl
            try simp only [Act.put, List.setIfInBounds_toArray, List.set_cons_zero, List.set_cons_succ]
            refine wpAnyH_take (i := 1) (v := ?_) (by simp only [List.getElem?_toArray, List.getElem?_cons_succ, List.getElem?_cons_zero]; rfl) (by kernel_rfl) (by kernel_rfl) (by kernel_rfl) (fun _ _ _ h => h) (Or.inl ⟨by rfl, ?_⟩) (by assumption) ?_
            rotate_left
            · intro W hSW
              go_simp
              try with_reducible rfl
            try simp only [Act.put, List.setIfInBounds_toArray, List.set_cons_zero, List.set_cons_succ]
            refine wpAnyH_take (i := 2) (v := ?_) (by simp only [List.getElem?_toArray, List.getElem?_cons_succ, List.getElem?_cons_zero]; rfl) (by kernel_rfl) (by kernel_rfl) (by kernel_rfl) (fun _ _ _ h => h) (Or.inl ⟨by rfl, ?_⟩) (by assumption) ?_
            rotate_left
            · intro W hSW
              go_simp
              try with_reducible rfl
            try simp only [Act.put, List.setIfInBounds_toArray, List.set_cons_zero, List.set_cons_succ]
            refine wpAnyH_take (i := 3) (v := ?_) (by simp only [List.getElem?_toArray, List.getElem?_cons_succ, List.getElem?_cons_zero]; rfl) (by kernel_rfl) (by kernel_rfl) (by kernel_rfl) (fun _ _ _ h => h) (Or.inl ⟨by rfl, ?_⟩) (by assumption) ?_
            rotate_left
            · intro W hSW
              go_simp
              try with_reducible rfl
            try simp only [Act.put, List.setIfInBounds_toArray, List.set_cons_zero, List.set_cons_succ]
            refine wpAnyH_take (i := 4) (by simp only [List.getElem?_toArray, List.getElem?_cons_succ, List.getElem?_cons_zero]; rfl) (by kernel_rfl) (by kernel_rfl) (by kernel_rfl) (fun _ _ _ h => h) (yieldsIf_load_mid (by rfl) 25 _ rfl w4.heap.size 0 rfl (Value.string p :: id.map (Value.int .u8)) _ (fun W hSW => row_range hSW) Tryd.underlying25 rfl HRL.out) (by assumption) ?_
            try simp only [Act.put, List.setIfInBounds_toArray, List.set_cons_zero, List.set_cons_succ]
            refine wpAnyH_take (i := 5) (v := ?_) (by simp only [List.getElem?_toArray, List.getElem?_cons_succ, List.getElem?_cons_zero]; rfl) (by kernel_rfl) (by kernel_rfl) (by kernel_rfl) (fun _ _ _ h => h) (Or.inl ⟨by rfl, ?_⟩) (by assumption) ?_
            rotate_left
            · intro W hSW
              go_simp
              try with_reducible rfl
            try simp only [Act.put, List.setIfInBounds_toArray, List.set_cons_zero, List.set_cons_succ]
            refine wpAnyH_ready (rs := [6]) (by kernel_rfl) (by simp) ?_
            refine AllReadyH.cons (by simp only [List.getElem?_toArray, List.getElem?_cons_succ, List.getElem?_cons_zero]; rfl) (fun K hK => ?_) AllReadyH.nil
            refine step_store_row (by rfl) 25 _ _ (by rfl) w.heap.size (fromA p id) (by rfl) (by rfl) 25 (fromA ⟨#[]⟩ zeros20) HF6.out HRI.out HRS.out (fromA_one _ _) ?_
            refine hK.out _ _ ((setRow_other _ _ _ _ (Nat.ne_of_gt HLW.out)).trans HG6.out) (fun hHeld2 => ?_)
            clear hK K hHeld
            have hHeld := hHeld2
            clear hHeld2
            try simp only [Act.put, List.setIfInBounds_toArray, List.set_cons_zero, List.set_cons_succ]
            refine wpAnyH_take (i := 7) (v := ?_) (by simp only [List.getElem?_toArray, List.getElem?_cons_succ, List.getElem?_cons_zero]; rfl) (by kernel_rfl) (by kernel_rfl) (by kernel_rfl) (fun _ _ _ h => h) (Or.inl ⟨by rfl, ?_⟩) (by assumption) ?_
            rotate_left
            · intro W hSW
              go_simp
              try with_reducible rfl
            try simp only [Act.put, List.setIfInBounds_toArray, List.set_cons_zero, List.set_cons_succ]
            refine wpAnyH_done (by kernel_rfl) ?_ _
            refine NoPanic.normal ?_
            go_wp2_with fail
            (try simp only [Exit.inBlock, Exit.then])
            refine bodyPost_ret (results_tmp_row_tmp Tryd.results14 _ _ w.heap.size 25 (fromA p id) (0, 0) _ rfl (setRow_heap _ _ _ _ _ _ HF6.out) Tryd.underlying25 rfl HRI.out) rfl ⟨?_, below_setRow HB6.out.drew (Nat.le_refl _) _⟩
            rw [HPN.out]
            show _ = _
            rw [str_nums]
            rfl
          · have HNE2 : Hid (∀ W, (binOp .neq 25 (.agg (fromA p id)) (.agg (fromA ⟨#[]⟩ zeros20))).run Tryd.prog W = .ok (.bool false) W) := fun W => by
              rw [HNE.out W, show (p.toList == (⟨#[]⟩ : ByteArray).toList && id == zeros20) = true from hnf]; rfl
            clear HNE
            have HX := Lib.hid (HEXT.out _ (by rw [HVAL.out, HIDE.out, HPE.out, HOKE.out, HPB.out]; rw [hnf]; simp) rfl)
            clear w53 m53 hsv hHeld
            go_wp2_with (first
              | refine wpList_eql rfl .eql 9 _ _ _ rfl (.string t) (.string s) rfl rfl (.bool true) (guard_str _ _ _ _) HEQ.out ?_
              | refine wpList_load_row_g rfl 25 _ rfl w4.heap.size rfl 25 (fromA p id) (0, 0) _ HG6.out Tryd.underlying25 rfl HRI.out ?_
              | refine wpList_build_0 rfl 25 rfl (.agg (fromA ⟨#[]⟩ zeros20)) build_none25 ?_
              | refine wpList_eql rfl .neq 25 _ _ _ rfl (.agg (fromA p id)) (.agg (fromA ⟨#[]⟩ zeros20)) rfl rfl (.bool false) (rguard_fromn _ _ _ _) HNE2.out ?_)
            exact ⟨⟨k + 1, by have := HK8.out; omega, by have := HKN.out; omega, by rw [WK.out], HX.out, HF6.out, HB6.out⟩, by have := HKN.out; rw [WK.out]; simp [intOf]; omega⟩
        · have hdi : ((s.size - k : Nat) : Int) < 53 := by omega
          have HX := Lib.hid (hext _ (hit_short hd) rfl)
          generalize s.size - k = dd at *
          clear hd hext hxk
          go_wp2_with fail
          exact ⟨⟨k + 1, by have := HK8.out; omega, by omega, by rw [WK.out], HX.out, HFW.out, HBW.out⟩, by rw [WK.out]; simp [intOf]; omega⟩
      · have hcb : ((c : Int) != 10) = true := by simp; omega
        have HX := Lib.hid (hext _ (hit_other (by rw [hxk]; intro h; injection h with h; omega)) rfl)
        clear hc hext hxk
        go_wp2_with fail
        exact ⟨⟨k + 1, by have := HK8.out; omega, by omega, by rw [WK.out], HX.out, HFW.out, HBW.out⟩, by rw [WK.out]; simp [intOf]; omega⟩
    · have hki : ¬ (k : Int) < (s.size : Int) := by omega
      have HPN : Hid (parseL (numsOf s) = none) := HNO.out fun i h1 h2 => HNK.out i h1 (by omega)
      clear hkn hext
      go_wp2_with (first
        | refine wpList_build_0 rfl 25 rfl (.agg (fromA ⟨#[]⟩ zeros20)) build_none25 ?_
        | refine wpList_store_row rfl 25 _ _ rfl w.heap.size (fromA ⟨#[]⟩ zeros20) rfl rfl 25 (fromA ⟨#[]⟩ zeros20) HFW.out HI.out rfl (fromA_one _ _) ?_)
      refine bodyPost_ret (results_tmp_row_tmp Tryd.results14 _ _ w.heap.size 25 (fromA ⟨#[]⟩ zeros20) (0, 0) _ rfl (setRow_heap _ _ _ _ _ _ HFW.out) Tryd.underlying25 rfl HI.out) rfl ⟨?_, below_setRow HBW.out (Nat.le_refl _) _⟩
      rw [HPN.out]
      exact ⟨_, rfl⟩
end Go.Proofs.YtmkhnlfhbiabcaaDoor
