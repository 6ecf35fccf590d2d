/- The document's Same of changes by themselves, whatever they tell: the walk. -/
import Derived.Test.YtkpiinjhcckhfaaGreatDoorTrRS
namespace Go.Proofs.YtkpiinjhcckhfaaGreatDoor
open Go.RowKit Plain Go.ChangeShapes Go.WideShapes Go.ChangeAt Go.Great
set_option linter.unusedVariables false
set_option linter.unusedSimpArgs false
set_option maxRecDepth 100000 in
set_option maxHeartbeats 64000000 in
theorem rsamex_any (a b : CX) (pa : Option Addr) (pc : Nat) (pb : Option Addr) (qc : Nat) (xa : Option Addr) (xc : Nat) (xb : Option Addr) (yc : Nat) (w : World) (ha : a.n = zeros20) (hb : b.n = zeros20) (h1 : RowAt 2 extE w xa a.xs) (h2 : RowAt 2 extE w xb b.xs) (hn : a.xs.length ≤ 100000) (hm : b.xs.length ≤ 100000) :
    Calls Tryz.prog 14 #[.agg (chA a (.slice xa a.xs.length xc) (.slice pa 0 pc)), .agg (chA b (.slice xb b.xs.length yc) (.slice pb 0 qc))] w fun e w' => e = .returned (.bool (decide (sameXB a b))) ∧ Below w.heap.size w w' := by
  have HA : Hid (a.n.length = 20) := by rw [ha]; exact zeros_20
  have HBL : Hid (b.n.length = 20) := by rw [hb]; exact zeros_20
  have HTE : Hid (∀ W, (binOp .neq 22 (.agg (V8 a.n)) (.agg (V8 b.n))).run Tryz.prog W = .ok (.bool false) W) := fun W => by rw [ha, hb]; exact neq_a20 W _ zeros_20
  have HX1 := Lib.hid h1
  have HX2 := Lib.hid h2
  obtain ⟨n, hN⟩ : ∃ n, a.xs.length = n := ⟨_, rfl⟩
  obtain ⟨m, hM⟩ : ∃ n, b.xs.length = n := ⟨_, rfl⟩
  have HN := Lib.hid hN
  have HM := Lib.hid hM
  have HNB : Hid (n ≤ 100000) := by rw [← hN]; exact hn
  rw [hN, hM]
  clear h1 h2 hn hm ha hb hN hM
  obtain ⟨d, hd⟩ : ∃ d, decide (sameXB a b) = d := ⟨_, rfl⟩
  rw [hd]
  have HD := Lib.hid hd
  clear hd
  have HB0 : Hid (Below w.heap.size w ((w.alloc (.cells (chA a (.slice xa n xc) (.slice pa 0 pc)) 49)).alloc (.cells (chA b (.slice xb m yc) (.slice pb 0 qc)) 49))) := ((Below.refl _ _).alloc (Nat.le_refl _) _).alloc (by simp) _
  have HP0 : Hid (Box ((w.alloc (.cells (chA a (.slice xa n xc) (.slice pa 0 pc)) 49)).alloc (.cells (chA b (.slice xb m yc) (.slice pb 0 qc)) 49)) w.heap.size (chA a (.slice xa n xc) (.slice pa 0 pc)) 49) := (Box.new _ _ _).alloc _
  have HP1 : Hid (Box ((w.alloc (.cells (chA a (.slice xa n xc) (.slice pa 0 pc)) 49)).alloc (.cells (chA b (.slice xb m yc) (.slice pb 0 qc)) 49)) (w.heap.size + 1) (chA b (.slice xb m yc) (.slice pb 0 qc)) 49) := by
    have h := Box.new (w.alloc (.cells (chA a (.slice xa n xc) (.slice pa 0 pc)) 49)) (chA b (.slice xb m yc) (.slice pb 0 qc)) 49
    rwa [show (w.alloc (.cells (chA a (.slice xa n xc) (.slice pa 0 pc)) 49)).heap.size = w.heap.size + 1 by simp] at h
  have HRA := Lib.hid (HP0.out.ch HA.out)
  have HRB := Lib.hid (HP1.out.ch HBL.out)
  have HT0 : Hid (((w.alloc (.cells (chA a (.slice xa n xc) (.slice pa 0 pc)) 49)).alloc (.cells (chA b (.slice xb m yc) (.slice pb 0 qc)) 49)).rangeAt w.heap.size 0 (U8 a.n)) := fun j v hj => by have h := (Box.range (cs := chL a (.slice xa n xc) (.slice pa 0 pc)) HP0.out) j v (by unfold chL; rw [List.getElem?_append_left (List.getElem?_eq_some_iff.1 hj).1]; exact hj); exact h
  have HT1 : Hid (((w.alloc (.cells (chA a (.slice xa n xc) (.slice pa 0 pc)) 49)).alloc (.cells (chA b (.slice xb m yc) (.slice pb 0 qc)) 49)).rangeAt (w.heap.size + 1) 0 (U8 b.n)) := fun j v hj => by have h := (Box.range (cs := chL b (.slice xb m yc) (.slice pb 0 qc)) HP1.out) j v (by unfold chL; rw [List.getElem?_append_left (List.getElem?_eq_some_iff.1 hj).1]; exact hj); exact h
  by_cases e0 : a.u = b.u
  rotate_left
  · have HF : Hid (d = false) := by show _ = _; rw [← HD.out, decide_eq_false_iff_not]; exact fun h => e0 h.1
    have HE0 : Hid (∀ W, (binOp .neq 9 (.string a.u) (.string b.u)).run Tryz.prog W = .ok (.bool true) W) := fun W => by rw [neq_strs, decide_eq_false e0]; rfl
    clear e0
    have ga0 := HRA.out.u
    have gb0 := HRB.out.u
    have ga1 := HRA.out.t
    have gb1 := HRB.out.t
    have ga2 := HRA.out.z
    have gb2 := HRB.out.z
    have ga3 := HRA.out.xs
    have gb3 := HRB.out.xs
    have ga4 := HRA.out.fs
    have gb4 := HRB.out.fs
    have ga5 := HRA.out.d
    have gb5 := HRB.out.d
    go_enter Tryz.func14, Tryz.ntmps14
    go_wp2_with (first
      | ((with_reducible refine (show wpList _ _ _ (⟨some 17, _, _, _, _, _⟩ :: _) _ _ from ?_)); refine Hid.out ?_)
      | refine wpList_load_mid rfl 22 _ rfl w.heap.size 0 rfl (U8 a.n) _ HT0.out Tryz.underlying22 rfl (id20_info8 _ HA.out) ?_
      | refine wpList_load_mid rfl 22 _ rfl (w.heap.size + 1) 0 rfl (U8 b.n) _ HT1.out Tryz.underlying22 rfl (id20_info8 _ HBL.out) ?_
      | refine wpList_eql (by rfl) .neq 22 _ _ _ rfl (.agg (V8 a.n)) (.agg (V8 b.n)) rfl rfl (.bool false) (guard_a20 _ _ _ _) HTE.out ?_)
    refine unhid ?_
    refine wpList_eql (by rfl) .neq 9 _ _ _ rfl (.string a.u) (.string b.u) rfl rfl (.bool true) (guard_strn _ _ _ _) HE0.out ?_
    go_step
    go_step
    go_step
    go_step
    go_step
    rename_i hK
    refine hK _ _ ?_
    clear hK
    go_skip
    go_wp2_with fail
    go_ret
    exact ⟨by rw [HF.out] <;> rfl, HB0.out⟩
  by_cases e1 : a.t = b.t
  rotate_left
  · have HF : Hid (d = false) := by show _ = _; rw [← HD.out, decide_eq_false_iff_not]; exact fun h => e1 h.2.1
    have HE0 : Hid (∀ W, (binOp .neq 9 (.string a.u) (.string b.u)).run Tryz.prog W = .ok (.bool false) W) := fun W => by rw [neq_strs, decide_eq_true e0]; rfl
    have HE1 : Hid (∀ W, (binOp .neq 3 (.int .i64 a.t) (.int .i64 b.t)).run Tryz.prog W = .ok (.bool true) W) := fun W => by rw [neq_int, beq_eq_false_iff_ne.2 e1]; rfl
    clear e0 e1
    have ga0 := HRA.out.u
    have gb0 := HRB.out.u
    have ga1 := HRA.out.t
    have gb1 := HRB.out.t
    have ga2 := HRA.out.z
    have gb2 := HRB.out.z
    have ga3 := HRA.out.xs
    have gb3 := HRB.out.xs
    have ga4 := HRA.out.fs
    have gb4 := HRB.out.fs
    have ga5 := HRA.out.d
    have gb5 := HRB.out.d
    go_enter Tryz.func14, Tryz.ntmps14
    go_wp2_with (first
      | ((with_reducible refine (show wpList _ _ _ (⟨some 24, _, _, _, _, _⟩ :: _) _ _ from ?_)); refine Hid.out ?_)
      | refine wpList_load_mid rfl 22 _ rfl w.heap.size 0 rfl (U8 a.n) _ HT0.out Tryz.underlying22 rfl (id20_info8 _ HA.out) ?_
      | refine wpList_load_mid rfl 22 _ rfl (w.heap.size + 1) 0 rfl (U8 b.n) _ HT1.out Tryz.underlying22 rfl (id20_info8 _ HBL.out) ?_
      | refine wpList_eql (by rfl) .neq 22 _ _ _ rfl (.agg (V8 a.n)) (.agg (V8 b.n)) rfl rfl (.bool false) (guard_a20 _ _ _ _) HTE.out ?_
      | refine wpList_eql (by rfl) .neq 9 _ _ _ rfl (.string a.u) (.string b.u) rfl rfl (.bool false) (guard_strn _ _ _ _) HE0.out ?_)
    refine unhid ?_
    refine wpList_eql (by rfl) .neq 3 _ _ _ rfl (.int .i64 a.t) (.int .i64 b.t) rfl rfl (.bool true) (guard_neqi _ _ _ _) HE1.out ?_
    go_step
    go_step
    go_step
    go_step
    go_step
    rename_i hK
    refine hK _ _ ?_
    clear hK
    go_skip
    go_wp2_with fail
    go_ret
    exact ⟨by rw [HF.out] <;> rfl, HB0.out⟩
  by_cases e2 : a.z = b.z
  rotate_left
  · have HF : Hid (d = false) := by show _ = _; rw [← HD.out, decide_eq_false_iff_not]; exact fun h => e2 h.2.2.1
    have HE0 : Hid (∀ W, (binOp .neq 9 (.string a.u) (.string b.u)).run Tryz.prog W = .ok (.bool false) W) := fun W => by rw [neq_strs, decide_eq_true e0]; rfl
    have HE1 : Hid (∀ W, (binOp .neq 3 (.int .i64 a.t) (.int .i64 b.t)).run Tryz.prog W = .ok (.bool false) W) := fun W => by rw [neq_int, beq_iff_eq.2 e1]; rfl
    have HE2 : Hid (∀ W, (binOp .neq 3 (.int .i64 a.z) (.int .i64 b.z)).run Tryz.prog W = .ok (.bool true) W) := fun W => by rw [neq_int, beq_eq_false_iff_ne.2 e2]; rfl
    clear e0 e1 e2
    have ga0 := HRA.out.u
    have gb0 := HRB.out.u
    have ga1 := HRA.out.t
    have gb1 := HRB.out.t
    have ga2 := HRA.out.z
    have gb2 := HRB.out.z
    have ga3 := HRA.out.xs
    have gb3 := HRB.out.xs
    have ga4 := HRA.out.fs
    have gb4 := HRB.out.fs
    have ga5 := HRA.out.d
    have gb5 := HRB.out.d
    go_enter Tryz.func14, Tryz.ntmps14
    go_wp2_with (first
      | ((with_reducible refine (show wpList _ _ _ (⟨some 31, _, _, _, _, _⟩ :: _) _ _ from ?_)); refine Hid.out ?_)
      | refine wpList_load_mid rfl 22 _ rfl w.heap.size 0 rfl (U8 a.n) _ HT0.out Tryz.underlying22 rfl (id20_info8 _ HA.out) ?_
      | refine wpList_load_mid rfl 22 _ rfl (w.heap.size + 1) 0 rfl (U8 b.n) _ HT1.out Tryz.underlying22 rfl (id20_info8 _ HBL.out) ?_
      | refine wpList_eql (by rfl) .neq 22 _ _ _ rfl (.agg (V8 a.n)) (.agg (V8 b.n)) rfl rfl (.bool false) (guard_a20 _ _ _ _) HTE.out ?_
      | refine wpList_eql (by rfl) .neq 9 _ _ _ rfl (.string a.u) (.string b.u) rfl rfl (.bool false) (guard_strn _ _ _ _) HE0.out ?_
      | refine wpList_eql (by rfl) .neq 3 _ _ _ rfl (.int .i64 a.t) (.int .i64 b.t) rfl rfl (.bool false) (guard_neqi _ _ _ _) HE1.out ?_)
    refine unhid ?_
    refine wpList_eql (by rfl) .neq 3 _ _ _ rfl (.int .i64 a.z) (.int .i64 b.z) rfl rfl (.bool true) (guard_neqi _ _ _ _) HE2.out ?_
    go_step
    go_step
    go_step
    go_step
    go_step
    rename_i hK
    refine hK _ _ ?_
    clear hK
    go_skip
    go_wp2_with fail
    go_ret
    exact ⟨by rw [HF.out] <;> rfl, HB0.out⟩
  by_cases e3 : a.d = b.d
  rotate_left
  · have HF : Hid (d = false) := by show _ = _; rw [← HD.out, decide_eq_false_iff_not]; exact fun h => e3 h.2.2.2.1
    have HE0 : Hid (∀ W, (binOp .neq 9 (.string a.u) (.string b.u)).run Tryz.prog W = .ok (.bool false) W) := fun W => by rw [neq_strs, decide_eq_true e0]; rfl
    have HE1 : Hid (∀ W, (binOp .neq 3 (.int .i64 a.t) (.int .i64 b.t)).run Tryz.prog W = .ok (.bool false) W) := fun W => by rw [neq_int, beq_iff_eq.2 e1]; rfl
    have HE2 : Hid (∀ W, (binOp .neq 3 (.int .i64 a.z) (.int .i64 b.z)).run Tryz.prog W = .ok (.bool false) W) := fun W => by rw [neq_int, beq_iff_eq.2 e2]; rfl
    have HE3 : Hid (∀ W, (binOp .neq 9 (.string a.d) (.string b.d)).run Tryz.prog W = .ok (.bool true) W) := fun W => by rw [neq_strs, decide_eq_false e3]; rfl
    clear e0 e1 e2 e3
    have ga0 := HRA.out.u
    have gb0 := HRB.out.u
    have ga1 := HRA.out.t
    have gb1 := HRB.out.t
    have ga2 := HRA.out.z
    have gb2 := HRB.out.z
    have ga3 := HRA.out.xs
    have gb3 := HRB.out.xs
    have ga4 := HRA.out.fs
    have gb4 := HRB.out.fs
    have ga5 := HRA.out.d
    have gb5 := HRB.out.d
    go_enter Tryz.func14, Tryz.ntmps14
    go_wp2_with (first
      | ((with_reducible refine (show wpList _ _ _ (⟨some 38, _, _, _, _, _⟩ :: _) _ _ from ?_)); refine Hid.out ?_)
      | refine wpList_load_mid rfl 22 _ rfl w.heap.size 0 rfl (U8 a.n) _ HT0.out Tryz.underlying22 rfl (id20_info8 _ HA.out) ?_
      | refine wpList_load_mid rfl 22 _ rfl (w.heap.size + 1) 0 rfl (U8 b.n) _ HT1.out Tryz.underlying22 rfl (id20_info8 _ HBL.out) ?_
      | refine wpList_eql (by rfl) .neq 22 _ _ _ rfl (.agg (V8 a.n)) (.agg (V8 b.n)) rfl rfl (.bool false) (guard_a20 _ _ _ _) HTE.out ?_
      | refine wpList_eql (by rfl) .neq 9 _ _ _ rfl (.string a.u) (.string b.u) rfl rfl (.bool false) (guard_strn _ _ _ _) HE0.out ?_
      | refine wpList_eql (by rfl) .neq 3 _ _ _ rfl (.int .i64 a.t) (.int .i64 b.t) rfl rfl (.bool false) (guard_neqi _ _ _ _) HE1.out ?_
      | refine wpList_eql (by rfl) .neq 3 _ _ _ rfl (.int .i64 a.z) (.int .i64 b.z) rfl rfl (.bool false) (guard_neqi _ _ _ _) HE2.out ?_)
    refine unhid ?_
    refine wpList_eql (by rfl) .neq 9 _ _ _ rfl (.string a.d) (.string b.d) rfl rfl (.bool true) (guard_strn _ _ _ _) HE3.out ?_
    go_step
    go_step
    go_step
    go_step
    go_step
    rename_i hK
    refine hK _ _ ?_
    clear hK
    go_skip
    go_wp2_with fail
    go_ret
    exact ⟨by rw [HF.out] <;> rfl, HB0.out⟩
  have HE0 : Hid (∀ W, (binOp .neq 9 (.string a.u) (.string b.u)).run Tryz.prog W = .ok (.bool false) W) := fun W => by rw [neq_strs, decide_eq_true e0]; rfl
  have HE1 : Hid (∀ W, (binOp .neq 3 (.int .i64 a.t) (.int .i64 b.t)).run Tryz.prog W = .ok (.bool false) W) := fun W => by rw [neq_int, beq_iff_eq.2 e1]; rfl
  have HE2 : Hid (∀ W, (binOp .neq 3 (.int .i64 a.z) (.int .i64 b.z)).run Tryz.prog W = .ok (.bool false) W) := fun W => by rw [neq_int, beq_iff_eq.2 e2]; rfl
  have HE3 : Hid (∀ W, (binOp .neq 9 (.string a.d) (.string b.d)).run Tryz.prog W = .ok (.bool false) W) := fun W => by rw [neq_strs, decide_eq_true e3]; rfl
  have HFE : Hid (d = decide (a.xs = b.xs)) := by show _ = _; rw [← HD.out, Bool.eq_iff_iff, decide_eq_true_eq, decide_eq_true_eq]; exact ⟨fun h => h.2.2.2.2, fun h => ⟨e0, e1, e2, e3, h⟩⟩
  clear e0 e1 e2 e3
  by_cases hl : n = m
  rotate_left
  · have HF : Hid (d = false) := by show _ = _; rw [HFE.out, decide_eq_false_iff_not]; exact fun h => hl (by rw [← HN.out, ← HM.out, h])
    have z1 : ¬ (n : Int) = (m : Int) := by omega
    have z2 : ((n : Int) != (m : Int)) = true := bne_iff_ne.2 z1
    clear hl
    have ga0 := HRA.out.u
    have gb0 := HRB.out.u
    have ga1 := HRA.out.t
    have gb1 := HRB.out.t
    have ga2 := HRA.out.z
    have gb2 := HRB.out.z
    have ga3 := HRA.out.xs
    have gb3 := HRB.out.xs
    have ga4 := HRA.out.fs
    have gb4 := HRB.out.fs
    have ga5 := HRA.out.d
    have gb5 := HRB.out.d
    have HEL : Hid (∀ W, (binOp .neq 3 (.int .i64 (n : Int)) (.int .i64 (m : Int))).run Tryz.prog W = .ok (.bool true) W) := fun W => by rw [neq_int, beq_eq_false_iff_ne.2 z1]; rfl
    clear z1 z2
    go_enter Tryz.func14, Tryz.ntmps14
    go_wp2_with (first
      | ((with_reducible refine (show wpList _ _ _ (⟨some 47, _, _, _, _, _⟩ :: _) _ _ from ?_)); refine Hid.out ?_)
      | refine wpList_load_mid rfl 22 _ rfl w.heap.size 0 rfl (U8 a.n) _ HT0.out Tryz.underlying22 rfl (id20_info8 _ HA.out) ?_
      | refine wpList_load_mid rfl 22 _ rfl (w.heap.size + 1) 0 rfl (U8 b.n) _ HT1.out Tryz.underlying22 rfl (id20_info8 _ HBL.out) ?_
      | refine wpList_eql (by rfl) .neq 22 _ _ _ rfl (.agg (V8 a.n)) (.agg (V8 b.n)) rfl rfl (.bool false) (guard_a20 _ _ _ _) HTE.out ?_
      | refine wpList_eql (by rfl) .neq 9 _ _ _ rfl (.string a.u) (.string b.u) rfl rfl (.bool false) (guard_strn _ _ _ _) HE0.out ?_
      | refine wpList_eql (by rfl) .neq 3 _ _ _ rfl (.int .i64 a.t) (.int .i64 b.t) rfl rfl (.bool false) (guard_neqi _ _ _ _) HE1.out ?_
      | refine wpList_eql (by rfl) .neq 3 _ _ _ rfl (.int .i64 a.z) (.int .i64 b.z) rfl rfl (.bool false) (guard_neqi _ _ _ _) HE2.out ?_
      | refine wpList_eql (by rfl) .neq 9 _ _ _ rfl (.string a.d) (.string b.d) rfl rfl (.bool false) (guard_strn _ _ _ _) HE3.out ?_)
    refine unhid ?_
    refine wpList_eql (by rfl) .neq 3 _ _ _ rfl (.int .i64 (n : Int)) (.int .i64 (m : Int)) rfl rfl (.bool true) (guard_neqi _ _ _ _) HEL.out ?_
    go_step
    go_step
    go_step
    go_step
    go_step
    rename_i hK
    refine hK _ _ ?_
    clear hK
    go_skip
    go_wp2_with fail
    go_ret
    exact ⟨by rw [HF.out] <;> rfl, HB0.out⟩
  subst hl
  have z2 : ((n : Int) != (n : Int)) = false := by rw [bne_self_eq_false]
  have ga0 := HRA.out.u
  have gb0 := HRB.out.u
  have ga1 := HRA.out.t
  have gb1 := HRB.out.t
  have ga2 := HRA.out.z
  have gb2 := HRB.out.z
  have ga3 := HRA.out.xs
  have gb3 := HRB.out.xs
  have ga4 := HRA.out.fs
  have gb4 := HRB.out.fs
  have ga5 := HRA.out.d
  have gb5 := HRB.out.d
  go_enter Tryz.func14, Tryz.ntmps14
  go_wp2_with (first
    | refine wpList_load_mid rfl 22 _ rfl w.heap.size 0 rfl (U8 a.n) _ HT0.out Tryz.underlying22 rfl (id20_info8 _ HA.out) ?_
    | refine wpList_load_mid rfl 22 _ rfl (w.heap.size + 1) 0 rfl (U8 b.n) _ HT1.out Tryz.underlying22 rfl (id20_info8 _ HBL.out) ?_
    | refine wpList_eql (by rfl) .neq 22 _ _ _ rfl (.agg (V8 a.n)) (.agg (V8 b.n)) rfl rfl (.bool false) (guard_a20 _ _ _ _) HTE.out ?_
    | refine wpList_eql (by rfl) .neq 9 _ _ _ rfl (.string a.u) (.string b.u) rfl rfl (.bool false) (guard_strn _ _ _ _) HE0.out ?_
    | refine wpList_eql (by rfl) .neq 3 _ _ _ rfl (.int .i64 a.t) (.int .i64 b.t) rfl rfl (.bool false) (guard_neqi _ _ _ _) HE1.out ?_
    | refine wpList_eql (by rfl) .neq 3 _ _ _ rfl (.int .i64 a.z) (.int .i64 b.z) rfl rfl (.bool false) (guard_neqi _ _ _ _) HE2.out ?_
    | refine wpList_eql (by rfl) .neq 9 _ _ _ rfl (.string a.d) (.string b.d) rfl rfl (.bool false) (guard_strn _ _ _ _) HE3.out ?_)
  clear z2 ga0 gb0 ga1 gb1 ga2 gb2 ga3 gb3 ga4 gb4 ga5 gb5
  obtain ⟨w0, hw0⟩ : ∃ zz, (w.alloc (.cells (chA a (.slice xa n xc) (.slice pa 0 pc)) 49)).alloc (.cells (chA b (.slice xb n yc) (.slice pb 0 qc)) 49) = zz := ⟨_, rfl⟩
  rw [hw0] at HB0 HP0 HP1 ⊢
  clear hw0 HRA HRB HT0 HT1
  obtain ⟨p0, hp0⟩ : ∃ b, w.heap.size = b := ⟨_, rfl⟩
  obtain ⟨p1, hp1⟩ : ∃ b, p0 + 1 = b := ⟨_, rfl⟩
  rw [hp0] at HP0 HP1
  rw [hp1] at HP1
  simp only [hp0, hp1]
  clear hp0 hp1
  have HC : Hid (∀ W, Below w0.heap.size w0 W → ChCells W p0 a (.slice xa n xc) (.slice pa 0 pc) ∧ ChCells W p1 b (.slice xb n yc) (.slice pb 0 qc)) := fun W hW => ⟨(HP0.out.below hW).ch HA.out, (HP1.out.below hW).ch HBL.out⟩
  have HWW : Hid (∀ W, Below w0.heap.size w0 W → Below w.heap.size w W) := fun W hW => HB0.out.trans (hW.mono HB0.out.size)
  go_loopw [5] (fun i wr => ∃ k : Nat, k ≤ n ∧ i = .int .i64 (k : Int) ∧ a.xs.take k = b.xs.take k ∧ Below w0.heap.size w0 wr) (fun i _ => n - (intOf i).toNat)
  case atStart => exact ⟨0, Nat.zero_le _, rfl, rfl, Below.refl _ _⟩
  case round =>
    obtain ⟨k, hk, rfl, htk, hb⟩ := hrel
    have HB := Lib.hid hb
    have HTK := Lib.hid htk
    have WK := Lib.hid (next_int k (by have := HNB.out; omega))
    have h1 := (HC.out wr hb).1.xs
    clear hb htk
    by_cases hkn : k < n
    · have hki : (k : Int) < (n : Int) := by omega
      have HK1 : Hid (k + 1 ≤ n) := by show _ ≤ _; omega
      obtain ⟨x, hp⟩ : ∃ x, a.xs[k]? = some x := ⟨_, List.getElem?_eq_getElem (by rw [HN.out]; omega)⟩
      obtain ⟨y, hq⟩ : ∃ x, b.xs[k]? = some x := ⟨_, List.getElem?_eq_getElem (by rw [HM.out]; omega)⟩
      rcases HX1.out with h0 | ⟨b1, off, rfl, hbl, hc⟩
      · rw [HN.out] at h0; omega
      rcases HX2.out with h0 | ⟨b2, off2, rfl, hbl2, hc2⟩
      · rw [HM.out] at h0; omega
      have HBD : Hid (Below w0.heap.size w0 wr.drew) := HB.out.drew
      have HR1 : Hid (wr.drew.rangeAt b1 (off + k * 2) (extE x)) := range_below (hc k x hp) (HWW.out _ HBD.out) hbl
      have HR2 : Hid (wr.drew.rangeAt b2 (off2 + k * 2) (extE y)) := range_below (hc2 k y hq) (HWW.out _ HBD.out) hbl2
      have HQ1 := Lib.hid (HC.out _ HBD.out).1.xs
      have HQ2 := Lib.hid (HC.out _ HBD.out).2.xs
      have HP := Lib.hid hp
      have HQ := Lib.hid hq
      clear hp hq hbl hc hbl2 hc2 hkn
      by_cases hxy : x = y
      · have HNE : Hid (∀ W, (binOp .neq 63 (.agg (extE x).toArray) (.agg (extE y).toArray)).run Tryz.prog W = .ok (.bool false) W) := fun W => by rw [neqs_rxe, decide_eq_true hxy]; rfl
        have HTN : Hid (a.xs.take (k + 1) = b.xs.take (k + 1)) := by show _ = _; rw [List.take_add_one, List.take_add_one, HP.out, HQ.out, HTK.out, hxy]
        clear hxy
        go_wp2_with fail
        refine wp_region_noPanic ?_
        refine wp_region_held_drew (S := fun W => (W.cell? ⟨p0, 23, none⟩ = some (.slice (some ⟨b1, off, none⟩) n xc) ∧ W.cell? ⟨p1, 23, none⟩ = some (.slice (some ⟨b2, off2, none⟩) n yc)) ∧ (W.rangeAt b1 (off + k * 2) (extE x) ∧ W.rangeAt b2 (off2 + k * 2) (extE y))) (by kernel_rfl) ?_ (fun hHeld => ?_)
        · exact ⟨⟨HQ1.out, HQ2.out⟩, HR1.out, HR2.out⟩
        refine tkV 0 (v := ?_) (hw := ?_) (h := ?_)
        rotate_left
        · intro W hSW
          go_simp
          try with_reducible rfl
        try simp only [Act.put, List.setIfInBounds_toArray, List.set_cons_zero, List.set_cons_succ]
        refine tkY 1 (hy := (yieldsIf_load_sl (by rfl) 47 _ rfl p0 23 rfl (.slice (some ⟨b1, off, none⟩) n xc) (fun W hSW => hSW.1.1) Tryz.underlying47)) (h := ?_)
        try simp only [Act.put, List.setIfInBounds_toArray, List.set_cons_zero, List.set_cons_succ]
        refine tkV 2 (v := ?_) (hw := ?_) (h := ?_)
        rotate_left
        · intro W hSW
          go_simp
          try with_reducible rfl
        try simp only [Act.put, List.setIfInBounds_toArray, List.set_cons_zero, List.set_cons_succ]
        refine tkV 3 (v := ?_) (hw := ?_) (h := ?_)
        rotate_left
        · intro W hSW
          go_simp
          try with_reducible rfl
        try simp only [Act.put, List.setIfInBounds_toArray, List.set_cons_zero, List.set_cons_succ]
        refine tkY 4 (hy := (yieldsIf_load_mid (by rfl) 63 _ rfl b1 (off + k * 2) rfl (extE x) _ (fun W hSW => hSW.2.1) Tryz.underlying63 rfl (info_rext x))) (h := ?_)
        try simp only [Act.put, List.setIfInBounds_toArray, List.set_cons_zero, List.set_cons_succ]
        refine tkV 5 (v := ?_) (hw := ?_) (h := ?_)
        rotate_left
        · intro W hSW
          go_simp
          try with_reducible rfl
        try simp only [Act.put, List.setIfInBounds_toArray, List.set_cons_zero, List.set_cons_succ]
        refine tkY 6 (hy := (yieldsIf_load_sl (by rfl) 47 _ rfl p1 23 rfl (.slice (some ⟨b2, off2, none⟩) n yc) (fun W hSW => hSW.1.2) Tryz.underlying47)) (h := ?_)
        try simp only [Act.put, List.setIfInBounds_toArray, List.set_cons_zero, List.set_cons_succ]
        refine tkV 7 (v := ?_) (hw := ?_) (h := ?_)
        rotate_left
        · intro W hSW
          go_simp
          try with_reducible rfl
        try simp only [Act.put, List.setIfInBounds_toArray, List.set_cons_zero, List.set_cons_succ]
        refine tkV 8 (v := ?_) (hw := ?_) (h := ?_)
        rotate_left
        · intro W hSW
          go_simp
          try with_reducible rfl
        try simp only [Act.put, List.setIfInBounds_toArray, List.set_cons_zero, List.set_cons_succ]
        refine tkY 9 (hy := (yieldsIf_load_mid (by rfl) 63 _ rfl b2 (off2 + k * 2) rfl (extE y) _ (fun W hSW => hSW.2.2) Tryz.underlying63 rfl (info_rext y))) (h := ?_)
        try simp only [Act.put, List.setIfInBounds_toArray, List.set_cons_zero, List.set_cons_succ]
        refine tkY 10 (hy := (yieldsIf_eql (by rfl) .neq 63 _ _ _ rfl (.agg (extE x).toArray) (.agg (extE y).toArray) rfl rfl (.bool false) (fun W => guardn_rxe _ _ _ _ W) (fun W => HNE.out W))) (h := ?_)
        try simp only [Act.put, List.setIfInBounds_toArray, List.set_cons_zero, List.set_cons_succ]
        refine wpAnyH_done (by kernel_rfl) ?_ _
        refine NoPanic.normal ?_
        clear hHeld
        go_wp2_with fail
        try rw [WK.out ((k : Int) + 1) rfl]
        exact ⟨⟨k + 1, HK1.out, rfl, HTN.out, HBD.out⟩, by simp [intOf]; have := HK1.out; omega⟩
      · have HNE : Hid (∀ W, (binOp .neq 63 (.agg (extE x).toArray) (.agg (extE y).toArray)).run Tryz.prog W = .ok (.bool true) W) := fun W => by rw [neqs_rxe, decide_eq_false hxy]; rfl
        have HF : Hid (d = false) := by
          show _ = _
          rw [HFE.out, decide_eq_false_iff_not]
          intro e
          have h3 := HP.out
          rw [e, HQ.out] at h3
          exact hxy (Option.some.inj h3).symm
        clear hxy
        go_wp2_with fail
        refine wp_region_noPanic ?_
        refine wp_region_held_drew (S := fun W => (W.cell? ⟨p0, 23, none⟩ = some (.slice (some ⟨b1, off, none⟩) n xc) ∧ W.cell? ⟨p1, 23, none⟩ = some (.slice (some ⟨b2, off2, none⟩) n yc)) ∧ (W.rangeAt b1 (off + k * 2) (extE x) ∧ W.rangeAt b2 (off2 + k * 2) (extE y))) (by kernel_rfl) ?_ (fun hHeld => ?_)
        · exact ⟨⟨HQ1.out, HQ2.out⟩, HR1.out, HR2.out⟩
        refine tkV 0 (v := ?_) (hw := ?_) (h := ?_)
        rotate_left
        · intro W hSW
          go_simp
          try with_reducible rfl
        try simp only [Act.put, List.setIfInBounds_toArray, List.set_cons_zero, List.set_cons_succ]
        refine tkY 1 (hy := (yieldsIf_load_sl (by rfl) 47 _ rfl p0 23 rfl (.slice (some ⟨b1, off, none⟩) n xc) (fun W hSW => hSW.1.1) Tryz.underlying47)) (h := ?_)
        try simp only [Act.put, List.setIfInBounds_toArray, List.set_cons_zero, List.set_cons_succ]
        refine tkV 2 (v := ?_) (hw := ?_) (h := ?_)
        rotate_left
        · intro W hSW
          go_simp
          try with_reducible rfl
        try simp only [Act.put, List.setIfInBounds_toArray, List.set_cons_zero, List.set_cons_succ]
        refine tkV 3 (v := ?_) (hw := ?_) (h := ?_)
        rotate_left
        · intro W hSW
          go_simp
          try with_reducible rfl
        try simp only [Act.put, List.setIfInBounds_toArray, List.set_cons_zero, List.set_cons_succ]
        refine tkY 4 (hy := (yieldsIf_load_mid (by rfl) 63 _ rfl b1 (off + k * 2) rfl (extE x) _ (fun W hSW => hSW.2.1) Tryz.underlying63 rfl (info_rext x))) (h := ?_)
        try simp only [Act.put, List.setIfInBounds_toArray, List.set_cons_zero, List.set_cons_succ]
        refine tkV 5 (v := ?_) (hw := ?_) (h := ?_)
        rotate_left
        · intro W hSW
          go_simp
          try with_reducible rfl
        try simp only [Act.put, List.setIfInBounds_toArray, List.set_cons_zero, List.set_cons_succ]
        refine tkY 6 (hy := (yieldsIf_load_sl (by rfl) 47 _ rfl p1 23 rfl (.slice (some ⟨b2, off2, none⟩) n yc) (fun W hSW => hSW.1.2) Tryz.underlying47)) (h := ?_)
        try simp only [Act.put, List.setIfInBounds_toArray, List.set_cons_zero, List.set_cons_succ]
        refine tkV 7 (v := ?_) (hw := ?_) (h := ?_)
        rotate_left
        · intro W hSW
          go_simp
          try with_reducible rfl
        try simp only [Act.put, List.setIfInBounds_toArray, List.set_cons_zero, List.set_cons_succ]
        refine tkV 8 (v := ?_) (hw := ?_) (h := ?_)
        rotate_left
        · intro W hSW
          go_simp
          try with_reducible rfl
        try simp only [Act.put, List.setIfInBounds_toArray, List.set_cons_zero, List.set_cons_succ]
        refine tkY 9 (hy := (yieldsIf_load_mid (by rfl) 63 _ rfl b2 (off2 + k * 2) rfl (extE y) _ (fun W hSW => hSW.2.2) Tryz.underlying63 rfl (info_rext y))) (h := ?_)
        try simp only [Act.put, List.setIfInBounds_toArray, List.set_cons_zero, List.set_cons_succ]
        refine tkY 10 (hy := (yieldsIf_eql (by rfl) .neq 63 _ _ _ rfl (.agg (extE x).toArray) (.agg (extE y).toArray) rfl rfl (.bool true) (fun W => guardn_rxe _ _ _ _ W) (fun W => HNE.out W))) (h := ?_)
        try simp only [Act.put, List.setIfInBounds_toArray, List.set_cons_zero, List.set_cons_succ]
        refine wpAnyH_done (by kernel_rfl) ?_ _
        refine NoPanic.normal ?_
        clear hHeld
        go_wp2_with fail
        (try simp only [Exit.inBlock, Exit.then])
        go_ret
        exact ⟨by rw [HF.out] <;> rfl, HWW.out _ HBD.out⟩
    · have hki : ¬ (k : Int) < (n : Int) := by omega
      have HF : Hid (d = true) := by
        show _ = _
        rw [HFE.out, decide_eq_true_eq]
        have h3 := HTK.out
        rwa [List.take_of_length_le (by rw [HN.out]; omega), List.take_of_length_le (by rw [HM.out]; omega)] at h3
      clear hkn hk
      go_wp2_with fail
      skip
      go_loopw [6] (fun i wr => i = .int .i64 0 ∧ Below w0.heap.size w0 wr) (fun _ _ => 0)
      case atStart => exact ⟨rfl, HB.out⟩
      case round =>
        obtain ⟨rfl, hb⟩ := hrel
        have HBy := Lib.hid hb
        have gz := (HC.out wr hb).1.fs
        clear hb
        go_wp2_with fail
        go_ret
        exact ⟨by rw [HF.out] <;> rfl, HWW.out _ HBy.out⟩
end Go.Proofs.YtkpiinjhcckhfaaGreatDoor
