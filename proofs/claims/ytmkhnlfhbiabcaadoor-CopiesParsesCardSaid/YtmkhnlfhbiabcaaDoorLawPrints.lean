/- CopiesPrints: the walk. -/
import Derived.Test.YtmkhnlfhbiabcaaDoorKnowns
namespace Go.Proofs.YtmkhnlfhbiabcaaDoor
open Go.RowKit Plain Go.ChangeShapes Go.WideShapes Go.ChangeAt
set_option linter.unusedVariables false
set_option linter.unusedSimpArgs false
theorem nums_str (xs : List Int) (h : ∀ x ∈ xs, 0 ≤ x ∧ x ≤ 255) : numsOf (strOfNums xs) = xs := by
  unfold numsOf
  rw [strOfNums_data, List.map_map]
  conv => rhs; rw [← List.map_id xs]
  apply List.map_congr_left
  intro x hx
  have := h x hx
  simp
  omega
theorem str_nums (s : ByteArray) : strOfNums (numsOf s) = s := by
  have h : (strOfNums (numsOf s)).data.toList = s.data.toList := by
    rw [strOfNums_data]
    unfold numsOf
    rw [List.map_map]
    conv => rhs; rw [← List.map_id s.data.toList]
    apply List.map_congr_left
    intro x hx
    simp
  have h2 : (strOfNums (numsOf s)).data = s.data := Array.toList_inj.1 h
  cases s
  cases hs : strOfNums (numsOf _)
  rw [hs] at h2
  simp only at h2
  rw [h2]
theorem eq_self (s : ByteArray) (W : World) : (binOp .eql 9 (.string s) (.string s)).run Tryd.prog W = .ok (.bool true) W := by
  rw [str_eql, beq_self_eq_true]
theorem rfrom_row (w : World) (p : ByteArray) (id : List Int) : (w.alloc (.cells (fromA p id) 25)).heap[w.heap.size]? = some (.cells (fromA p id) 25 (0, 0)) := heap_alloc_new _ _
set_option maxRecDepth 100000 in
set_option maxHeartbeats 16000000 in
theorem prints_any (a : Option Addr) (len cap : Nat) (Z : List Int) (P : ByteArray) (N : List Int) (w : World) (hE : Env w) (R0 : RowB w a len cap Z) (h20 : N.length = 20) (hb : ∀ x ∈ N, 0 ≤ x ∧ x ≤ 255) (hps : P.size ≤ 9223372036854775807) :
    Calls Tryd.prog 3 #[.slice a len cap, .agg (fromA P N)] w fun e w' => e = .returned (.bool true) ∧ Below w.heap.size w w' := by
  have hle := R0.le
  have hmin : min (len : Int) 500 = ((min len 500 : Nat) : Int) := by omega
  have R1 := R0.front (min len 500) (by omega)
  obtain ⟨m, hm⟩ : ∃ m, min len 500 = m := ⟨_, rfl⟩
  rw [hm] at hmin R1
  have hm5 : m ≤ 500 := by omega
  have hmc : m ≤ cap := by omega
  have hsl := fun W => slice_to a len cap m hmc W
  generalize Z.take m = T at *
  have HR := Lib.hid R1
  have HTB : Hid (∀ x ∈ T, 0 ≤ x ∧ x ≤ 255) := fun x hx => by have := R1.mem x hx; omega
  have HM5 := Lib.hid hm5
  obtain ⟨s, hs⟩ : ∃ s, strOfNums T = s := ⟨_, rfl⟩
  have HNS : Hid (numsOf s = T) := by show _ = _; rw [← hs]; exact nums_str T HTB.out
  have HSS : Hid (s.size = m) := by
    show _ = _
    rw [← numsOf_length, HNS.out, R1.len]
  have HE := Lib.hid hE
  have H20 := Lib.hid h20
  have HNB := Lib.hid hb
  have HTR : Hid (∀ W, Below w.heap.size w W → (convert 22 9 (.slice a m cap)).run Tryd.prog W = .ok (.string s) W) := fun W hW => by
    rw [← hs]; exact text_run W a m cap T (HR.out.below hW).bytes
  have HFI := Lib.hid (rfrom_info P N h20)
  have HB1 : Hid (Below w.heap.size w (w.alloc (.cells (fromA P N) 25))) := (Below.refl _ _).alloc (Nat.le_refl _) _
  have HRW := Lib.hid (rfrom_row w P N)
  have HFA := Lib.hid (fun W => from_any P N W h20 hps)
  have htx := HTR.out _ HB1.out
  clear R0 R1 hle hm hm5 hs hE h20 hb hps
  go_enter Tryd.func3, Tryd.ntmps3
  go_wp2_with (first
    | refine wpList_load_row rfl 25 _ rfl w.heap.size rfl 25 (fromA P N) (0, 0) _ HRW.out Tryd.underlying25 rfl HFI.out ?_)
  clear htx hmin hsl
  generalize w.alloc (.cells (fromA P N) 25) = w1 at *
  refine (HFA.out w1).mono ?_
  rintro e w2 ⟨rfl, hb⟩
  have HB2 := Lib.hid (HB1.out.trans (hb.mono HB1.out.size))
  have HQS : Hid ((cutS P).size ≤ 300) := cutS_size P
  clear hb HB1 HRW HFA HFI
  generalize cutS P = q at *
  have HFQ := Lib.hid (from_info q N H20.out)
  have HZS : Hid ((fromA ⟨#[]⟩ zeros20).size = (fromA q N).size) := by show _ = _; rw [fromA_size, fromA_size, H20.out]; rfl
  have HZN : Hid ((w2.alloc (.cells (fromA ⟨#[]⟩ zeros20) 28)).heap[w2.heap.size]? = some (.cells (fromA ⟨#[]⟩ zeros20) 28 (0, 0))) := heap_alloc_new _ _
  have hb3 : Below w2.heap.size w2 ((w2.alloc (.cells (fromA ⟨#[]⟩ zeros20) 28)).setRow w2.heap.size (fromA q N)) := below_setRow ((Below.refl _ _).alloc (Nat.le_refl _) _) (Nat.le_refl _) _
  have HB3 := Lib.hid (HB2.out.trans (hb3.mono HB2.out.size))
  have HG3 := Lib.hid (setRow_heap _ _ _ (fromA q N) _ _ HZN.out)
  have hzf := zero_from
  clear hb3
  go_wp2_with (first
    | refine wpList_store_row rfl 28 _ _ rfl w2.heap.size (fromA q N) rfl rfl 28 (fromA ⟨#[]⟩ zeros20) HZN.out HFQ.out HZS.out (fromA_one _ _) ?_
    | refine wpList_load_row rfl 28 _ rfl w2.heap.size rfl 28 (fromA q N) (0, 0) _ HG3.out Tryd.underlying28 rfl HFQ.out ?_)
  clear hzf HZN
  generalize (w2.alloc (.cells (fromA ⟨#[]⟩ zeros20) 28)).setRow w2.heap.size (fromA q N) = w3 at *
  refine (print_any a m cap T q N w3 (HE.out.below HB3.out) (HR.out.below HB3.out) (by have := HM5.out; omega) H20.out HNB.out).mono ?_
  rintro e w4 ⟨hpo, hb⟩
  have HB4 := Lib.hid (HB3.out.trans (hb.mono HB3.out.size))
  have HG4 := Lib.hid (row_stay HG3.out hb)
  have hps : printL T q N = (refPrintB s q N).map numsOf := by rw [← HNS.out]; exact print_same s q N
  rw [hps] at hpo
  clear hb HG3 HB3 hps
  cases hr : refPrintB s q N with
  | none =>
    rw [hr] at hpo
    obtain rfl : e = _ := hpo
    have HRF := Lib.hid hr
    clear hr
    go_wp2_with (first
      | refine wpList_load_row rfl 28 _ rfl w2.heap.size rfl 28 (fromA q N) (0, 0) _ HG4.out Tryd.underlying28 rfl HFQ.out ?_)
    refine (of_any q N w4 H20.out).mono ?_
    rintro e w5 ⟨rfl, hb⟩
    have HB5 := Lib.hid (HB4.out.trans (hb.mono HB4.out.size))
    clear hb HG4
    go_wp2_with fail
    refine (refPrint_any s q N w5 (by have := HM5.out; have := HSS.out; omega) H20.out HNB.out).mono ?_
    rintro e w6 ⟨hpo, hb⟩
    rw [HRF.out] at hpo
    obtain rfl : e = _ := hpo
    have HB6 := Lib.hid (HB5.out.trans (hb.mono HB5.out.size))
    clear hb HB5 HB4
    go_wp2_with fail
    refine (known_any w6 (HE.out.below HB6.out)).mono ?_
    rintro e w7 ⟨rfl, hb⟩
    have HB7 := Lib.hid (HB6.out.trans (hb.mono HB6.out.size))
    have htx := HTR.out w7 HB7.out
    have htn := text_run w7 none 0 0 [] (RowB.none w7).bytes
    rw [show strOfNums [] = (⟨#[]⟩ : ByteArray) from rfl] at htn
    clear hb HB6
    go_wp2_with (first
      | refine wpList_eql rfl .eql 9 _ _ _ rfl (.string s) (.string s) rfl rfl (.bool true) (guard_str _ _ _ _) (eq_self s) ?_
      | refine wpList_eql rfl .eql 9 _ _ _ rfl (.string ⟨#[]⟩) (.string ⟨#[]⟩) rfl rfl (.bool true) (guard_str _ _ _ _) (eq_self ⟨#[]⟩) ?_)
    go_ret
    exact ⟨rfl, HB7.out⟩
  | some t =>
    rw [hr] at hpo
    obtain ⟨va, vc, rfl, hmd⟩ := hpo
    have HRF := Lib.hid hr
    have HV := Lib.hid (hmd.row (range_of_mem (numsOf_bytes t)))
    clear hr hmd
    generalize (numsOf t).length = tn at *
    go_wp2_with (first
      | refine wpList_load_row rfl 28 _ rfl w2.heap.size rfl 28 (fromA q N) (0, 0) _ HG4.out Tryd.underlying28 rfl HFQ.out ?_)
    refine (of_any q N w4 H20.out).mono ?_
    rintro e w5 ⟨rfl, hb⟩
    have HB5 := Lib.hid (HB4.out.trans (hb.mono HB4.out.size))
    have HV5 := Lib.hid (HV.out.below hb)
    clear hb HG4 HV
    go_wp2_with fail
    refine (refPrint_any s q N w5 (by have := HM5.out; have := HSS.out; omega) H20.out HNB.out).mono ?_
    rintro e w6 ⟨hpo, hb⟩
    rw [HRF.out] at hpo
    obtain rfl : e = _ := hpo
    have HB6 := Lib.hid (HB5.out.trans (hb.mono HB5.out.size))
    have HV6 := Lib.hid (HV5.out.below hb)
    clear hb HB5 HB4 HV5
    go_wp2_with fail
    refine (known_any w6 (HE.out.below HB6.out)).mono ?_
    rintro e w7 ⟨rfl, hb⟩
    have HB7 := Lib.hid (HB6.out.trans (hb.mono HB6.out.size))
    have htx := HTR.out w7 HB7.out
    have htn := text_run w7 va tn vc (numsOf t) (HV6.out.below hb).bytes
    rw [str_nums] at htn
    clear hb HB6 HV6
    go_wp2_with (first
      | refine wpList_eql rfl .eql 9 _ _ _ rfl (.string s) (.string s) rfl rfl (.bool true) (guard_str _ _ _ _) (eq_self s) ?_
      | refine wpList_eql rfl .eql 9 _ _ _ rfl (.string t) (.string t) rfl rfl (.bool true) (guard_str _ _ _ _) (eq_self t) ?_)
    go_ret
    exact ⟨rfl, HB7.out⟩
end Go.Proofs.YtmkhnlfhbiabcaaDoor
