/- The document's Parse of a copy: the walk. -/
import Derived.Test.YtmkhnlfhbiabcaaDoorParseMath
import Derived.Test.YtmkhnlfhbiabcaaDoorLawOwn
namespace Go.Proofs.YtmkhnlfhbiabcaaDoor
open Go.RowKit Plain Go.ChangeShapes Go.WideShapes Go.ChangeAt
set_option linter.unusedVariables false
set_option linter.unusedSimpArgs false
theorem ext_nums (s : ByteArray) (lo hi : Nat) : numsOf (s.extract lo hi) = ((numsOf s).drop lo).take (hi - lo) := by
  unfold numsOf
  have e : (s.extract lo hi).data.toList = (s.data.toList.drop lo).take (hi - lo) := by
    simp [List.extract_eq_take_drop]
  rw [e, List.map_take, List.map_drop]
theorem slice_tail (s : ByteArray) (lo : Nat) (h : lo ≤ s.size) (x : Int) (hx : x = (lo : Int)) (W : World) : (Instr.slice 9 (.string s) (some (.int .i64 x)) none none).run Tryd.prog W = .ok (.string (s.extract lo s.size)) W := by
  subst hx
  have ht := Tryd.underlying9
  simp [Instr.slice, run_underlying ht, Instr.sliceBounds, run_sliceBound, h]
theorem ext_tail (s : ByteArray) (lo : Nat) : numsOf (s.extract lo s.size) = (numsOf s).drop lo := by
  rw [ext_nums, List.take_of_length_le (by rw [List.length_drop, numsOf_length]; exact Nat.le_refl _)]
def RefOut (e : Ending) : Option (List Int × ByteArray × List Int) → Prop
  | none => ∃ t, e = .returned (.tuple #[.string t, .agg (fromA ⟨#[]⟩ zeros20), .bool false])
  | some (v, p, id) => e = .returned (.tuple #[.string (strOfNums v), .agg (fromA p id), .bool true])
set_option maxRecDepth 100000 in
set_option maxHeartbeats 32000000 in
theorem refParse1 (s : ByteArray) (w : World) (hs : s.size ≤ 100000) (hbg : beginsT s = false) :
    Calls Tryd.prog 14 #[.string s] w fun e w' => RefOut e (parseL (numsOf s)) ∧ Below w.heap.size w w' := by
  have hzf := zero_rfrom
  have HBG := Lib.hid hbg
  have HF0 : Hid ((w.alloc (.cells (fromA ⟨#[]⟩ zeros20) 25)).heap[w.heap.size]? = some (.cells (fromA ⟨#[]⟩ zeros20) 25 (0, 0))) := heap_alloc_new _ _
  have HB0 : Hid (Below w.heap.size w (w.alloc (.cells (fromA ⟨#[]⟩ zeros20) 25))) := (Below.refl _ _).alloc (Nat.le_refl _) _
  have HI : Hid ((Tryd.prog.info? 25).map (·.size) = some (fromA ⟨#[]⟩ zeros20).size) := rfrom_info _ _ rfl
  clear hbg
  go_enter Tryd.func14, Tryd.ntmps14
  go_wp2_with fail
  clear hzf
  generalize w.alloc (.cells (fromA ⟨#[]⟩ zeros20) 25) = w0 at *
  refine (begins_any s w0).mono ?_
  rintro e w1 ⟨rfl, hb⟩
  rw [HBG.out]
  have HB1 := Lib.hid (HB0.out.trans (hb.mono HB0.out.size))
  have HF1 := Lib.hid (row_stay HF0.out hb)
  clear hb HB0 HF0
  go_wp2_with (first
    | refine wpList_build_0 rfl 25 rfl (.agg (fromA ⟨#[]⟩ zeros20)) build_none25 ?_
    | refine wpList_store_row rfl 25 _ _ rfl w.heap.size (fromA ⟨#[]⟩ zeros20) rfl rfl 25 (fromA ⟨#[]⟩ zeros20) HF1.out HI.out rfl (fromA_one _ _) ?_)
  refine bodyPost_ret (results_tmp_row_tmp Tryd.results14 _ _ w.heap.size 25 (fromA ⟨#[]⟩ zeros20) (0, 0) _ rfl (setRow_heap _ _ _ _ _ _ HF1.out) Tryd.underlying25 rfl HI.out) rfl ⟨?_, below_setRow HB1.out (Nat.le_refl _) _⟩
  have hp : parseL (numsOf s) = some (numsOf s, ⟨#[]⟩, zeros20) := by
    unfold parseL
    rw [pre_begins, HBG.out, if_neg (by decide)]
  rw [hp]
  show _ = _
  rw [str_nums]
  rfl
set_option maxRecDepth 100000 in
set_option maxHeartbeats 32000000 in
theorem refParse2 (s : ByteArray) (w : World) (hs : s.size ≤ 100000) (hbg : beginsT s = true) (hbg2 : beginsT (s.extract 2 s.size) = true) :
    Calls Tryd.prog 14 #[.string s] w fun e w' => RefOut e (parseL (numsOf s)) ∧ Below w.heap.size w w' := by
  have hzf := zero_rfrom
  have h2 : 2 ≤ s.size := by
    rcases Nat.lt_or_ge 1 s.size with h | h
    · exact h
    · rw [begins_short s (by omega)] at hbg; cases hbg
  have h4 : 4 ≤ s.size := by
    have hz : (s.extract 2 s.size).size = s.size - 2 := by simp
    rcases Nat.lt_or_ge 1 (s.extract 2 s.size).size with h | h
    · omega
    · rw [begins_short _ (by omega)] at hbg2; cases hbg2
  have hsl2 := fun W => slice_tail s 2 h2 2 rfl W
  have hsl4 := fun W => slice_tail s 4 h4 4 rfl W
  have hp : parseL (numsOf s) = if printL ((numsOf s).drop 4) ⟨#[]⟩ zeros20 = some (numsOf s) then some ((numsOf s).drop 4, ⟨#[]⟩, zeros20) else none :=
    twice (numsOf_bytes s) (by rw [pre_begins]; exact hbg) (by rw [← ext_tail, pre_begins]; exact hbg2)
  rw [← ext_tail, print_same] at hp
  have hz4 : (s.extract 4 s.size).size ≤ 10000000 := by simp; omega
  have HP := Lib.hid hp
  have HZ4 := Lib.hid hz4
  have HBG := Lib.hid hbg
  have HBG2 := Lib.hid hbg2
  have HF0 : Hid ((w.alloc (.cells (fromA ⟨#[]⟩ zeros20) 25)).heap[w.heap.size]? = some (.cells (fromA ⟨#[]⟩ zeros20) 25 (0, 0))) := heap_alloc_new _ _
  have HB0 : Hid (Below w.heap.size w (w.alloc (.cells (fromA ⟨#[]⟩ zeros20) 25))) := (Below.refl _ _).alloc (Nat.le_refl _) _
  have HI : Hid ((Tryd.prog.info? 25).map (·.size) = some (fromA ⟨#[]⟩ zeros20).size) := rfrom_info _ _ rfl
  clear hbg hbg2 hp hz4 h2 h4 hs
  generalize s.extract 4 s.size = s4 at *
  generalize s.extract 2 s.size = s2 at *
  go_enter Tryd.func14, Tryd.ntmps14
  go_wp2_with fail
  clear hzf
  generalize w.alloc (.cells (fromA ⟨#[]⟩ zeros20) 25) = w0 at *
  refine (begins_any s w0).mono ?_
  rintro e w1 ⟨rfl, hb⟩
  rw [HBG.out]
  have HB1 := Lib.hid (HB0.out.trans (hb.mono HB0.out.size))
  have HF1 := Lib.hid (row_stay HF0.out hb)
  clear hb HB0 HF0
  go_wp2_with fail
  refine (begins_any s2 w1).mono ?_
  rintro e w2 ⟨rfl, hb⟩
  rw [HBG2.out]
  have HB2 := Lib.hid (HB1.out.trans (hb.mono HB1.out.size))
  have HF2 := Lib.hid (row_stay HF1.out hb)
  clear hb HB1 HF1
  go_wp2_with (first
    | refine wpList_build_0 rfl 25 rfl (.agg (fromA ⟨#[]⟩ zeros20)) build_none25 ?_)
  refine (refPrint_any s4 ⟨#[]⟩ zeros20 w2 HZ4.out rfl (by decide)).mono ?_
  rintro e w3 ⟨hpo, hb⟩
  have HB3 := Lib.hid (HB2.out.trans (hb.mono HB2.out.size))
  have HF3 := Lib.hid (row_stay HF2.out hb)
  clear hb HB2 HF2
  obtain ⟨t, ht⟩ : ∃ t, refPrintB s4 ⟨#[]⟩ zeros20 = some t := by
    unfold refPrintB
    rw [show noFrom ⟨#[]⟩ zeros20 = true from by decide +kernel, if_pos rfl]
    exact ⟨_, rfl⟩
  rw [ht] at hpo HP
  obtain rfl : e = _ := hpo
  have HEQ := Lib.hid (fun W => str_eql t s W)
  cases hts : (t.data.toList == s.data.toList)
  · rw [hts] at HEQ
    have HP2 : Hid (parseL (numsOf s) = none) := by
      show _ = _
      rw [HP.out, if_neg]
      intro h
      simp only [Option.map_some, Option.some.injEq] at h
      have := congrArg strOfNums h
      rw [str_nums, str_nums] at this
      rw [this, beq_self_eq_true] at hts
      cases hts
    clear hts ht HP
    go_wp2_with (first
      | refine wpList_build_0 rfl 25 rfl (.agg (fromA ⟨#[]⟩ zeros20)) build_none25 ?_
      | refine wpList_eql rfl .eql 9 _ _ _ rfl (.string t) (.string s) rfl rfl (.bool false) (guard_str _ _ _ _) HEQ.out ?_
      | refine wpList_store_row rfl 25 _ _ rfl w.heap.size (fromA ⟨#[]⟩ zeros20) rfl rfl 25 (fromA ⟨#[]⟩ zeros20) HF3.out HI.out rfl (fromA_one _ _) ?_)
    refine bodyPost_ret (results_tmp_row_tmp Tryd.results14 _ _ w.heap.size 25 (fromA ⟨#[]⟩ zeros20) (0, 0) _ rfl (setRow_heap _ _ _ _ _ _ HF3.out) Tryd.underlying25 rfl HI.out) rfl ⟨?_, below_setRow HB3.out (Nat.le_refl _) _⟩
    rw [HP2.out]
    exact ⟨_, rfl⟩
  · rw [hts] at HEQ
    have HP2 : Hid (parseL (numsOf s) = some (numsOf s4, ⟨#[]⟩, zeros20)) := by
      show _ = _
      rw [HP.out, if_pos]
      have h1 : t.data = s.data := Array.toList_inj.1 (beq_iff_eq.1 hts)
      simp only [Option.map_some, Option.some.injEq]
      unfold numsOf
      rw [h1]
    clear hts ht HP
    go_wp2_with (first
      | refine wpList_build_0 rfl 25 rfl (.agg (fromA ⟨#[]⟩ zeros20)) build_none25 ?_
      | refine wpList_eql rfl .eql 9 _ _ _ rfl (.string t) (.string s) rfl rfl (.bool true) (guard_str _ _ _ _) HEQ.out ?_
      | refine wpList_store_row rfl 25 _ _ rfl w.heap.size (fromA ⟨#[]⟩ zeros20) rfl rfl 25 (fromA ⟨#[]⟩ zeros20) HF3.out HI.out rfl (fromA_one _ _) ?_)
    refine bodyPost_ret (results_tmp_row_tmp Tryd.results14 _ _ w.heap.size 25 (fromA ⟨#[]⟩ zeros20) (0, 0) _ rfl (setRow_heap _ _ _ _ _ _ HF3.out) Tryd.underlying25 rfl HI.out) rfl ⟨?_, below_setRow HB3.out (Nat.le_refl _) _⟩
    rw [HP2.out]
    show _ = _
    rw [str_nums]
    rfl
end Go.Proofs.YtmkhnlfhbiabcaaDoor
