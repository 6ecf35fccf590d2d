/- The document's Same of commits by themselves, whatever they tell: the walk. -/
import Derived.Test.YtkpiinjhcckhfaaGreatDoorTrRS
namespace Go.Proofs.YtkpiinjhcckhfaaGreatDoor
open Go.RowKit Plain Go.ChangeShapes Go.WideShapes Go.ChangeAt Go.Great
set_option linter.unusedVariables false
set_option linter.unusedSimpArgs false
set_option maxRecDepth 100000 in
set_option maxHeartbeats 64000000 in
theorem rsamec_any (a b : CC) (pa : Option Addr) (pc : Nat) (pb : Option Addr) (qc : Nat) (xa : Option Addr) (xc : Nat) (xb : Option Addr) (yc : Nat) (w : World) (ha : a.tr = zeros20) (hb : b.tr = zeros20) (h1 : RowAt 2 extE w xa a.xs) (h2 : RowAt 2 extE w xb b.xs) (hn : a.xs.length ≤ 100000) (hm : b.xs.length ≤ 100000) :
    Calls Tryz.prog 17 #[.agg (coA a (.slice pa 0 pc) (.slice xa a.xs.length xc)), .agg (coA b (.slice pb 0 qc) (.slice xb b.xs.length yc))] w fun e w' => e = .returned (.bool (decide (sameCB a b))) ∧ Below w.heap.size w w' := by
  have HA : Hid (a.tr.length = 20) := by rw [ha]; exact zeros_20
  have HBL : Hid (b.tr.length = 20) := by rw [hb]; exact zeros_20
  have HTE : Hid (∀ W, (binOp .neq 22 (.agg (V8 a.tr)) (.agg (V8 b.tr))).run Tryz.prog W = .ok (.bool false) W) := fun W => by rw [ha, hb]; exact neq_a20 W _ zeros_20
  have HX1 := Lib.hid h1
  have HX2 := Lib.hid h2
  obtain ⟨n, hN⟩ : ∃ n, a.xs.length = n := ⟨_, rfl⟩
  obtain ⟨m, hM⟩ : ∃ n, b.xs.length = n := ⟨_, rfl⟩
  have HN := Lib.hid hN
  have HM := Lib.hid hM
  have HNB : Hid (n ≤ 100000) := by rw [← hN]; exact hn
  rw [hN, hM]
  clear h1 h2 hn hm ha hb hN hM
  obtain ⟨d, hd⟩ : ∃ d, decide (sameCB a b) = d := ⟨_, rfl⟩
  rw [hd]
  have HD := Lib.hid hd
  clear hd
  have HB0 : Hid (Below w.heap.size w ((w.alloc (.cells (coA a (.slice pa 0 pc) (.slice xa n xc)) 28)).alloc (.cells (coA b (.slice pb 0 qc) (.slice xb m yc)) 28))) := ((Below.refl _ _).alloc (Nat.le_refl _) _).alloc (by simp) _
  have HP0 : Hid (Box ((w.alloc (.cells (coA a (.slice pa 0 pc) (.slice xa n xc)) 28)).alloc (.cells (coA b (.slice pb 0 qc) (.slice xb m yc)) 28)) w.heap.size (coA a (.slice pa 0 pc) (.slice xa n xc)) 28) := (Box.new _ _ _).alloc _
  have HP1 : Hid (Box ((w.alloc (.cells (coA a (.slice pa 0 pc) (.slice xa n xc)) 28)).alloc (.cells (coA b (.slice pb 0 qc) (.slice xb m yc)) 28)) (w.heap.size + 1) (coA b (.slice pb 0 qc) (.slice xb m yc)) 28) := by
    have h := Box.new (w.alloc (.cells (coA a (.slice pa 0 pc) (.slice xa n xc)) 28)) (coA b (.slice pb 0 qc) (.slice xb m yc)) 28
    rwa [show (w.alloc (.cells (coA a (.slice pa 0 pc) (.slice xa n xc)) 28)).heap.size = w.heap.size + 1 by simp] at h
  have HRA := Lib.hid (HP0.out.co HA.out)
  have HRB := Lib.hid (HP1.out.co HBL.out)
  by_cases e0 : a.a = b.a
  rotate_left
  · have HF : Hid (d = false) := by show _ = _; rw [← HD.out, decide_eq_false_iff_not]; exact fun h => e0 h.1
    have HE0 : Hid (∀ W, (binOp .neq 25 (.agg (whoA a.a)) (.agg (whoA b.a))).run Tryz.prog W = .ok (.bool true) W) := fun W => by rw [neqs_rwho, decide_eq_false e0]; rfl
    clear e0
    have ga0 := HRA.out.pars
    have gb0 := HRB.out.pars
    have ga1 := HRA.out.exts
    have gb1 := HRB.out.exts
    have ga2 := HRA.out.msg
    have gb2 := HRB.out.msg
    go_enter Tryz.func17, Tryz.ntmps17
    go_wp2_with (first
      | ((with_reducible refine (show wpList _ _ _ (⟨some 17, _, _, _, _, _⟩ :: _) _ _ from ?_)); refine Hid.out ?_)
      | refine wpList_load_mid rfl 22 _ rfl w.heap.size 0 rfl (U8 a.tr) _ HRA.out.tree Tryz.underlying22 rfl (id20_info8 _ HA.out) ?_
      | refine wpList_load_mid rfl 22 _ rfl (w.heap.size + 1) 0 rfl (U8 b.tr) _ HRB.out.tree Tryz.underlying22 rfl (id20_info8 _ HBL.out) ?_
      | refine wpList_eql (by rfl) .neq 22 _ _ _ rfl (.agg (V8 a.tr)) (.agg (V8 b.tr)) rfl rfl (.bool false) (guard_a20 _ _ _ _) HTE.out ?_
      | refine wpList_load_mid_g (by rfl) 25 _ rfl w.heap.size 21 rfl (whoL a.a) _ HRA.out.author Tryz.underlying25 rfl (info_rwhoL _) ?_
      | refine wpList_load_mid_g (by rfl) 25 _ rfl (w.heap.size + 1) 21 rfl (whoL b.a) _ HRB.out.author Tryz.underlying25 rfl (info_rwhoL _) ?_)
    refine unhid ?_
    refine wpList_eql (by rfl) .neq 25 _ _ _ rfl (.agg (whoA a.a)) (.agg (whoA b.a)) rfl rfl (.bool true) (guardn_rwho _ _ _ _) HE0.out ?_
    go_step
    go_step
    go_step
    go_step
    go_step
    rename_i hK
    refine hK _ _ ?_
    clear hK
    go_skip
    go_wp2_with fail
    go_ret
    exact ⟨by rw [HF.out] <;> rfl, HB0.out⟩
  by_cases e1 : a.c = b.c
  rotate_left
  · have HF : Hid (d = false) := by show _ = _; rw [← HD.out, decide_eq_false_iff_not]; exact fun h => e1 h.2.1
    have HE0 : Hid (∀ W, (binOp .neq 25 (.agg (whoA a.a)) (.agg (whoA b.a))).run Tryz.prog W = .ok (.bool false) W) := fun W => by rw [neqs_rwho, decide_eq_true e0]; rfl
    have HE1 : Hid (∀ W, (binOp .neq 25 (.agg (whoA a.c)) (.agg (whoA b.c))).run Tryz.prog W = .ok (.bool true) W) := fun W => by rw [neqs_rwho, decide_eq_false e1]; rfl
    clear e0 e1
    have ga0 := HRA.out.pars
    have gb0 := HRB.out.pars
    have ga1 := HRA.out.exts
    have gb1 := HRB.out.exts
    have ga2 := HRA.out.msg
    have gb2 := HRB.out.msg
    go_enter Tryz.func17, Tryz.ntmps17
    go_wp2_with (first
      | ((with_reducible refine (show wpList _ _ _ (⟨some 24, _, _, _, _, _⟩ :: _) _ _ from ?_)); refine Hid.out ?_)
      | refine wpList_load_mid rfl 22 _ rfl w.heap.size 0 rfl (U8 a.tr) _ HRA.out.tree Tryz.underlying22 rfl (id20_info8 _ HA.out) ?_
      | refine wpList_load_mid rfl 22 _ rfl (w.heap.size + 1) 0 rfl (U8 b.tr) _ HRB.out.tree Tryz.underlying22 rfl (id20_info8 _ HBL.out) ?_
      | refine wpList_eql (by rfl) .neq 22 _ _ _ rfl (.agg (V8 a.tr)) (.agg (V8 b.tr)) rfl rfl (.bool false) (guard_a20 _ _ _ _) HTE.out ?_
      | refine wpList_load_mid_g (by rfl) 25 _ rfl w.heap.size 21 rfl (whoL a.a) _ HRA.out.author Tryz.underlying25 rfl (info_rwhoL _) ?_
      | refine wpList_load_mid_g (by rfl) 25 _ rfl (w.heap.size + 1) 21 rfl (whoL b.a) _ HRB.out.author Tryz.underlying25 rfl (info_rwhoL _) ?_
      | refine wpList_eql (by rfl) .neq 25 _ _ _ rfl (.agg (whoA a.a)) (.agg (whoA b.a)) rfl rfl (.bool false) (guardn_rwho _ _ _ _) HE0.out ?_
      | refine wpList_load_mid_g (by rfl) 25 _ rfl w.heap.size 25 rfl (whoL a.c) _ HRA.out.committer Tryz.underlying25 rfl (info_rwhoL _) ?_
      | refine wpList_load_mid_g (by rfl) 25 _ rfl (w.heap.size + 1) 25 rfl (whoL b.c) _ HRB.out.committer Tryz.underlying25 rfl (info_rwhoL _) ?_)
    refine unhid ?_
    refine wpList_eql (by rfl) .neq 25 _ _ _ rfl (.agg (whoA a.c)) (.agg (whoA b.c)) rfl rfl (.bool true) (guardn_rwho _ _ _ _) HE1.out ?_
    go_step
    go_step
    go_step
    go_step
    go_step
    rename_i hK
    refine hK _ _ ?_
    clear hK
    go_skip
    go_wp2_with fail
    go_ret
    exact ⟨by rw [HF.out] <;> rfl, HB0.out⟩
  by_cases e2 : a.m = b.m
  rotate_left
  · have HF : Hid (d = false) := by show _ = _; rw [← HD.out, decide_eq_false_iff_not]; exact fun h => e2 h.2.2.1
    have HE0 : Hid (∀ W, (binOp .neq 25 (.agg (whoA a.a)) (.agg (whoA b.a))).run Tryz.prog W = .ok (.bool false) W) := fun W => by rw [neqs_rwho, decide_eq_true e0]; rfl
    have HE1 : Hid (∀ W, (binOp .neq 25 (.agg (whoA a.c)) (.agg (whoA b.c))).run Tryz.prog W = .ok (.bool false) W) := fun W => by rw [neqs_rwho, decide_eq_true e1]; rfl
    have HE2 : Hid (∀ W, (binOp .neq 9 (.string a.m) (.string b.m)).run Tryz.prog W = .ok (.bool true) W) := fun W => by rw [neq_strs, decide_eq_false e2]; rfl
    clear e0 e1 e2
    have ga0 := HRA.out.pars
    have gb0 := HRB.out.pars
    have ga1 := HRA.out.exts
    have gb1 := HRB.out.exts
    have ga2 := HRA.out.msg
    have gb2 := HRB.out.msg
    go_enter Tryz.func17, Tryz.ntmps17
    go_wp2_with (first
      | ((with_reducible refine (show wpList _ _ _ (⟨some 31, _, _, _, _, _⟩ :: _) _ _ from ?_)); refine Hid.out ?_)
      | refine wpList_load_mid rfl 22 _ rfl w.heap.size 0 rfl (U8 a.tr) _ HRA.out.tree Tryz.underlying22 rfl (id20_info8 _ HA.out) ?_
      | refine wpList_load_mid rfl 22 _ rfl (w.heap.size + 1) 0 rfl (U8 b.tr) _ HRB.out.tree Tryz.underlying22 rfl (id20_info8 _ HBL.out) ?_
      | refine wpList_eql (by rfl) .neq 22 _ _ _ rfl (.agg (V8 a.tr)) (.agg (V8 b.tr)) rfl rfl (.bool false) (guard_a20 _ _ _ _) HTE.out ?_
      | refine wpList_load_mid_g (by rfl) 25 _ rfl w.heap.size 21 rfl (whoL a.a) _ HRA.out.author Tryz.underlying25 rfl (info_rwhoL _) ?_
      | refine wpList_load_mid_g (by rfl) 25 _ rfl (w.heap.size + 1) 21 rfl (whoL b.a) _ HRB.out.author Tryz.underlying25 rfl (info_rwhoL _) ?_
      | refine wpList_eql (by rfl) .neq 25 _ _ _ rfl (.agg (whoA a.a)) (.agg (whoA b.a)) rfl rfl (.bool false) (guardn_rwho _ _ _ _) HE0.out ?_
      | refine wpList_load_mid_g (by rfl) 25 _ rfl w.heap.size 25 rfl (whoL a.c) _ HRA.out.committer Tryz.underlying25 rfl (info_rwhoL _) ?_
      | refine wpList_load_mid_g (by rfl) 25 _ rfl (w.heap.size + 1) 25 rfl (whoL b.c) _ HRB.out.committer Tryz.underlying25 rfl (info_rwhoL _) ?_
      | refine wpList_eql (by rfl) .neq 25 _ _ _ rfl (.agg (whoA a.c)) (.agg (whoA b.c)) rfl rfl (.bool false) (guardn_rwho _ _ _ _) HE1.out ?_)
    refine unhid ?_
    refine wpList_eql (by rfl) .neq 9 _ _ _ rfl (.string a.m) (.string b.m) rfl rfl (.bool true) (guard_strn _ _ _ _) HE2.out ?_
    go_step
    go_step
    go_step
    go_step
    go_step
    rename_i hK
    refine hK _ _ ?_
    clear hK
    go_skip
    go_wp2_with fail
    go_ret
    exact ⟨by rw [HF.out] <;> rfl, HB0.out⟩
  have HE0 : Hid (∀ W, (binOp .neq 25 (.agg (whoA a.a)) (.agg (whoA b.a))).run Tryz.prog W = .ok (.bool false) W) := fun W => by rw [neqs_rwho, decide_eq_true e0]; rfl
  have HE1 : Hid (∀ W, (binOp .neq 25 (.agg (whoA a.c)) (.agg (whoA b.c))).run Tryz.prog W = .ok (.bool false) W) := fun W => by rw [neqs_rwho, decide_eq_true e1]; rfl
  have HE2 : Hid (∀ W, (binOp .neq 9 (.string a.m) (.string b.m)).run Tryz.prog W = .ok (.bool false) W) := fun W => by rw [neq_strs, decide_eq_true e2]; rfl
  have HFE : Hid (d = decide (a.xs = b.xs)) := by show _ = _; rw [← HD.out, Bool.eq_iff_iff, decide_eq_true_eq, decide_eq_true_eq]; exact ⟨fun h => h.2.2.2, fun h => ⟨e0, e1, e2, h⟩⟩
  clear e0 e1 e2
  by_cases hl : n = m
  rotate_left
  · have HF : Hid (d = false) := by show _ = _; rw [HFE.out, decide_eq_false_iff_not]; exact fun h => hl (by rw [← HN.out, ← HM.out, h])
    have z1 : ¬ (n : Int) = (m : Int) := by omega
    have z2 : ((n : Int) != (m : Int)) = true := bne_iff_ne.2 z1
    clear hl
    have ga0 := HRA.out.pars
    have gb0 := HRB.out.pars
    have ga1 := HRA.out.exts
    have gb1 := HRB.out.exts
    have ga2 := HRA.out.msg
    have gb2 := HRB.out.msg
    go_enter Tryz.func17, Tryz.ntmps17
    go_wp2_with (first
      | refine wpList_load_mid rfl 22 _ rfl w.heap.size 0 rfl (U8 a.tr) _ HRA.out.tree Tryz.underlying22 rfl (id20_info8 _ HA.out) ?_
      | refine wpList_load_mid rfl 22 _ rfl (w.heap.size + 1) 0 rfl (U8 b.tr) _ HRB.out.tree Tryz.underlying22 rfl (id20_info8 _ HBL.out) ?_
      | refine wpList_eql (by rfl) .neq 22 _ _ _ rfl (.agg (V8 a.tr)) (.agg (V8 b.tr)) rfl rfl (.bool false) (guard_a20 _ _ _ _) HTE.out ?_
      | refine wpList_load_mid_g (by rfl) 25 _ rfl w.heap.size 21 rfl (whoL a.a) _ HRA.out.author Tryz.underlying25 rfl (info_rwhoL _) ?_
      | refine wpList_load_mid_g (by rfl) 25 _ rfl (w.heap.size + 1) 21 rfl (whoL b.a) _ HRB.out.author Tryz.underlying25 rfl (info_rwhoL _) ?_
      | refine wpList_eql (by rfl) .neq 25 _ _ _ rfl (.agg (whoA a.a)) (.agg (whoA b.a)) rfl rfl (.bool false) (guardn_rwho _ _ _ _) HE0.out ?_
      | refine wpList_load_mid_g (by rfl) 25 _ rfl w.heap.size 25 rfl (whoL a.c) _ HRA.out.committer Tryz.underlying25 rfl (info_rwhoL _) ?_
      | refine wpList_load_mid_g (by rfl) 25 _ rfl (w.heap.size + 1) 25 rfl (whoL b.c) _ HRB.out.committer Tryz.underlying25 rfl (info_rwhoL _) ?_
      | refine wpList_eql (by rfl) .neq 25 _ _ _ rfl (.agg (whoA a.c)) (.agg (whoA b.c)) rfl rfl (.bool false) (guardn_rwho _ _ _ _) HE1.out ?_
      | refine wpList_eql (by rfl) .neq 9 _ _ _ rfl (.string a.m) (.string b.m) rfl rfl (.bool false) (guard_strn _ _ _ _) HE2.out ?_)
    go_ret
    exact ⟨by rw [HF.out] <;> rfl, HB0.out⟩
  subst hl
  have z2 : ((n : Int) != (n : Int)) = false := by rw [bne_self_eq_false]
  have ga0 := HRA.out.pars
  have gb0 := HRB.out.pars
  have ga1 := HRA.out.exts
  have gb1 := HRB.out.exts
  have ga2 := HRA.out.msg
  have gb2 := HRB.out.msg
  go_enter Tryz.func17, Tryz.ntmps17
  go_wp2_with (first
    | refine wpList_load_mid rfl 22 _ rfl w.heap.size 0 rfl (U8 a.tr) _ HRA.out.tree Tryz.underlying22 rfl (id20_info8 _ HA.out) ?_
    | refine wpList_load_mid rfl 22 _ rfl (w.heap.size + 1) 0 rfl (U8 b.tr) _ HRB.out.tree Tryz.underlying22 rfl (id20_info8 _ HBL.out) ?_
    | refine wpList_eql (by rfl) .neq 22 _ _ _ rfl (.agg (V8 a.tr)) (.agg (V8 b.tr)) rfl rfl (.bool false) (guard_a20 _ _ _ _) HTE.out ?_
    | refine wpList_load_mid_g (by rfl) 25 _ rfl w.heap.size 21 rfl (whoL a.a) _ HRA.out.author Tryz.underlying25 rfl (info_rwhoL _) ?_
    | refine wpList_load_mid_g (by rfl) 25 _ rfl (w.heap.size + 1) 21 rfl (whoL b.a) _ HRB.out.author Tryz.underlying25 rfl (info_rwhoL _) ?_
    | refine wpList_eql (by rfl) .neq 25 _ _ _ rfl (.agg (whoA a.a)) (.agg (whoA b.a)) rfl rfl (.bool false) (guardn_rwho _ _ _ _) HE0.out ?_
    | refine wpList_load_mid_g (by rfl) 25 _ rfl w.heap.size 25 rfl (whoL a.c) _ HRA.out.committer Tryz.underlying25 rfl (info_rwhoL _) ?_
    | refine wpList_load_mid_g (by rfl) 25 _ rfl (w.heap.size + 1) 25 rfl (whoL b.c) _ HRB.out.committer Tryz.underlying25 rfl (info_rwhoL _) ?_
    | refine wpList_eql (by rfl) .neq 25 _ _ _ rfl (.agg (whoA a.c)) (.agg (whoA b.c)) rfl rfl (.bool false) (guardn_rwho _ _ _ _) HE1.out ?_
    | refine wpList_eql (by rfl) .neq 9 _ _ _ rfl (.string a.m) (.string b.m) rfl rfl (.bool false) (guard_strn _ _ _ _) HE2.out ?_)
  clear z2 ga0 gb0 ga1 gb1 ga2 gb2
  obtain ⟨w0, hw0⟩ : ∃ zz, (w.alloc (.cells (coA a (.slice pa 0 pc) (.slice xa n xc)) 28)).alloc (.cells (coA b (.slice pb 0 qc) (.slice xb n yc)) 28) = zz := ⟨_, rfl⟩
  rw [hw0] at HB0 HP0 HP1 ⊢
  clear hw0 HRA HRB
  obtain ⟨p0, hp0⟩ : ∃ b, w.heap.size = b := ⟨_, rfl⟩
  obtain ⟨p1, hp1⟩ : ∃ b, p0 + 1 = b := ⟨_, rfl⟩
  rw [hp0] at HP0 HP1
  rw [hp1] at HP1
  simp only [hp0, hp1]
  clear hp0 hp1
  have HC : Hid (∀ W, Below w0.heap.size w0 W → CoRow W p0 a (.slice pa 0 pc) (.slice xa n xc) ∧ CoRow W p1 b (.slice pb 0 qc) (.slice xb n yc)) := fun W hW => ⟨(HP0.out.below hW).co HA.out, (HP1.out.below hW).co HBL.out⟩
  have HWW : Hid (∀ W, Below w0.heap.size w0 W → Below w.heap.size w W) := fun W hW => HB0.out.trans (hW.mono HB0.out.size)
  go_loopw [5] (fun i wr => i = .int .i64 0 ∧ Below w0.heap.size w0 wr) (fun _ _ => 0)
  case atStart => exact ⟨rfl, Below.refl _ _⟩
  case round =>
    obtain ⟨rfl, hb⟩ := hrel
    have HBz := Lib.hid hb
    have gz := (HC.out wr hb).1.pars
    clear hb
    go_wp2_with fail
    clear gz
    rename World => wa
    go_loopw [6] (fun i wr => ∃ k : Nat, k ≤ n ∧ i = .int .i64 (k : Int) ∧ a.xs.take k = b.xs.take k ∧ Below w0.heap.size w0 wr) (fun i _ => n - (intOf i).toNat)
    case atStart => exact ⟨0, Nat.zero_le _, rfl, rfl, HBz.out⟩
    case round =>
      obtain ⟨k, hk, rfl, htk, hb⟩ := hrel
      have HB := Lib.hid hb
      have HTK := Lib.hid htk
      have WK := Lib.hid (next_int k (by have := HNB.out; omega))
      have h1 := (HC.out wr hb).1.exts
      clear hb htk
      by_cases hkn : k < n
      · have hki : (k : Int) < (n : Int) := by omega
        have HK1 : Hid (k + 1 ≤ n) := by show _ ≤ _; omega
        obtain ⟨x, hp⟩ : ∃ x, a.xs[k]? = some x := ⟨_, List.getElem?_eq_getElem (by rw [HN.out]; omega)⟩
        obtain ⟨y, hq⟩ : ∃ x, b.xs[k]? = some x := ⟨_, List.getElem?_eq_getElem (by rw [HM.out]; omega)⟩
        rcases HX1.out with h0 | ⟨b1, off, rfl, hbl, hc⟩
        · rw [HN.out] at h0; omega
        rcases HX2.out with h0 | ⟨b2, off2, rfl, hbl2, hc2⟩
        · rw [HM.out] at h0; omega
        have HBD : Hid (Below w0.heap.size w0 wr.drew) := HB.out.drew
        have HR1 : Hid (wr.drew.rangeAt b1 (off + k * 2) (extE x)) := range_below (hc k x hp) (HWW.out _ HBD.out) hbl
        have HR2 : Hid (wr.drew.rangeAt b2 (off2 + k * 2) (extE y)) := range_below (hc2 k y hq) (HWW.out _ HBD.out) hbl2
        have HQ1 := Lib.hid (HC.out _ HBD.out).1.exts
        have HQ2 := Lib.hid (HC.out _ HBD.out).2.exts
        have HP := Lib.hid hp
        have HQ := Lib.hid hq
        clear hp hq hbl hc hbl2 hc2 hkn
        by_cases hxy : x = y
        · have HNE : Hid (∀ W, (binOp .neq 65 (.agg (extE x).toArray) (.agg (extE y).toArray)).run Tryz.prog W = .ok (.bool false) W) := fun W => by rw [neqs_rce, decide_eq_true hxy]; rfl
          have HTN : Hid (a.xs.take (k + 1) = b.xs.take (k + 1)) := by show _ = _; rw [List.take_add_one, List.take_add_one, HP.out, HQ.out, HTK.out, hxy]
          clear hxy
          go_wp2_with fail
          refine wp_region_noPanic ?_
          refine wp_region_held_drew (S := fun W => (W.cell? ⟨p0, 29, none⟩ = some (.slice (some ⟨b1, off, none⟩) n xc) ∧ W.cell? ⟨p1, 29, none⟩ = some (.slice (some ⟨b2, off2, none⟩) n yc)) ∧ (W.rangeAt b1 (off + k * 2) (extE x) ∧ W.rangeAt b2 (off2 + k * 2) (extE y))) (by kernel_rfl) ?_ (fun hHeld => ?_)
          · exact ⟨⟨HQ1.out, HQ2.out⟩, HR1.out, HR2.out⟩
          refine tkV 0 (v := ?_) (hw := ?_) (h := ?_)
          rotate_left
          · intro W hSW
            go_simp
            try with_reducible rfl
          try simp only [Act.put, List.setIfInBounds_toArray, List.set_cons_zero, List.set_cons_succ]
          refine tkY 1 (hy := (yieldsIf_load_sl (by rfl) 26 _ rfl p0 29 rfl (.slice (some ⟨b1, off, none⟩) n xc) (fun W hSW => hSW.1.1) Tryz.underlying26)) (h := ?_)
          try simp only [Act.put, List.setIfInBounds_toArray, List.set_cons_zero, List.set_cons_succ]
          refine tkV 2 (v := ?_) (hw := ?_) (h := ?_)
          rotate_left
          · intro W hSW
            go_simp
            try with_reducible rfl
          try simp only [Act.put, List.setIfInBounds_toArray, List.set_cons_zero, List.set_cons_succ]
          refine tkV 3 (v := ?_) (hw := ?_) (h := ?_)
          rotate_left
          · intro W hSW
            go_simp
            try with_reducible rfl
          try simp only [Act.put, List.setIfInBounds_toArray, List.set_cons_zero, List.set_cons_succ]
          refine tkY 4 (hy := (yieldsIf_load_mid (by rfl) 65 _ rfl b1 (off + k * 2) rfl (extE x) _ (fun W hSW => hSW.2.1) Tryz.underlying65 rfl (info_rcext x))) (h := ?_)
          try simp only [Act.put, List.setIfInBounds_toArray, List.set_cons_zero, List.set_cons_succ]
          refine tkV 5 (v := ?_) (hw := ?_) (h := ?_)
          rotate_left
          · intro W hSW
            go_simp
            try with_reducible rfl
          try simp only [Act.put, List.setIfInBounds_toArray, List.set_cons_zero, List.set_cons_succ]
          refine tkY 6 (hy := (yieldsIf_load_sl (by rfl) 26 _ rfl p1 29 rfl (.slice (some ⟨b2, off2, none⟩) n yc) (fun W hSW => hSW.1.2) Tryz.underlying26)) (h := ?_)
          try simp only [Act.put, List.setIfInBounds_toArray, List.set_cons_zero, List.set_cons_succ]
          refine tkV 7 (v := ?_) (hw := ?_) (h := ?_)
          rotate_left
          · intro W hSW
            go_simp
            try with_reducible rfl
          try simp only [Act.put, List.setIfInBounds_toArray, List.set_cons_zero, List.set_cons_succ]
          refine tkV 8 (v := ?_) (hw := ?_) (h := ?_)
          rotate_left
          · intro W hSW
            go_simp
            try with_reducible rfl
          try simp only [Act.put, List.setIfInBounds_toArray, List.set_cons_zero, List.set_cons_succ]
          refine tkY 9 (hy := (yieldsIf_load_mid (by rfl) 65 _ rfl b2 (off2 + k * 2) rfl (extE y) _ (fun W hSW => hSW.2.2) Tryz.underlying65 rfl (info_rcext y))) (h := ?_)
          try simp only [Act.put, List.setIfInBounds_toArray, List.set_cons_zero, List.set_cons_succ]
          refine tkY 10 (hy := (yieldsIf_eql (by rfl) .neq 65 _ _ _ rfl (.agg (extE x).toArray) (.agg (extE y).toArray) rfl rfl (.bool false) (fun W => guardn_rce _ _ _ _ W) (fun W => HNE.out W))) (h := ?_)
          try simp only [Act.put, List.setIfInBounds_toArray, List.set_cons_zero, List.set_cons_succ]
          refine wpAnyH_done (by kernel_rfl) ?_ _
          refine NoPanic.normal ?_
          clear hHeld
          go_wp2_with fail
          try rw [WK.out ((k : Int) + 1) rfl]
          exact ⟨⟨k + 1, HK1.out, rfl, HTN.out, HBD.out⟩, by simp [intOf]; have := HK1.out; omega⟩
        · have HNE : Hid (∀ W, (binOp .neq 65 (.agg (extE x).toArray) (.agg (extE y).toArray)).run Tryz.prog W = .ok (.bool true) W) := fun W => by rw [neqs_rce, decide_eq_false hxy]; rfl
          have HF : Hid (d = false) := by
            show _ = _
            rw [HFE.out, decide_eq_false_iff_not]
            intro e
            have h3 := HP.out
            rw [e, HQ.out] at h3
            exact hxy (Option.some.inj h3).symm
          clear hxy
          go_wp2_with fail
          refine wp_region_noPanic ?_
          refine wp_region_held_drew (S := fun W => (W.cell? ⟨p0, 29, none⟩ = some (.slice (some ⟨b1, off, none⟩) n xc) ∧ W.cell? ⟨p1, 29, none⟩ = some (.slice (some ⟨b2, off2, none⟩) n yc)) ∧ (W.rangeAt b1 (off + k * 2) (extE x) ∧ W.rangeAt b2 (off2 + k * 2) (extE y))) (by kernel_rfl) ?_ (fun hHeld => ?_)
          · exact ⟨⟨HQ1.out, HQ2.out⟩, HR1.out, HR2.out⟩
          refine tkV 0 (v := ?_) (hw := ?_) (h := ?_)
          rotate_left
          · intro W hSW
            go_simp
            try with_reducible rfl
          try simp only [Act.put, List.setIfInBounds_toArray, List.set_cons_zero, List.set_cons_succ]
          refine tkY 1 (hy := (yieldsIf_load_sl (by rfl) 26 _ rfl p0 29 rfl (.slice (some ⟨b1, off, none⟩) n xc) (fun W hSW => hSW.1.1) Tryz.underlying26)) (h := ?_)
          try simp only [Act.put, List.setIfInBounds_toArray, List.set_cons_zero, List.set_cons_succ]
          refine tkV 2 (v := ?_) (hw := ?_) (h := ?_)
          rotate_left
          · intro W hSW
            go_simp
            try with_reducible rfl
          try simp only [Act.put, List.setIfInBounds_toArray, List.set_cons_zero, List.set_cons_succ]
          refine tkV 3 (v := ?_) (hw := ?_) (h := ?_)
          rotate_left
          · intro W hSW
            go_simp
            try with_reducible rfl
          try simp only [Act.put, List.setIfInBounds_toArray, List.set_cons_zero, List.set_cons_succ]
          refine tkY 4 (hy := (yieldsIf_load_mid (by rfl) 65 _ rfl b1 (off + k * 2) rfl (extE x) _ (fun W hSW => hSW.2.1) Tryz.underlying65 rfl (info_rcext x))) (h := ?_)
          try simp only [Act.put, List.setIfInBounds_toArray, List.set_cons_zero, List.set_cons_succ]
          refine tkV 5 (v := ?_) (hw := ?_) (h := ?_)
          rotate_left
          · intro W hSW
            go_simp
            try with_reducible rfl
          try simp only [Act.put, List.setIfInBounds_toArray, List.set_cons_zero, List.set_cons_succ]
          refine tkY 6 (hy := (yieldsIf_load_sl (by rfl) 26 _ rfl p1 29 rfl (.slice (some ⟨b2, off2, none⟩) n yc) (fun W hSW => hSW.1.2) Tryz.underlying26)) (h := ?_)
          try simp only [Act.put, List.setIfInBounds_toArray, List.set_cons_zero, List.set_cons_succ]
          refine tkV 7 (v := ?_) (hw := ?_) (h := ?_)
          rotate_left
          · intro W hSW
            go_simp
            try with_reducible rfl
          try simp only [Act.put, List.setIfInBounds_toArray, List.set_cons_zero, List.set_cons_succ]
          refine tkV 8 (v := ?_) (hw := ?_) (h := ?_)
          rotate_left
          · intro W hSW
            go_simp
            try with_reducible rfl
          try simp only [Act.put, List.setIfInBounds_toArray, List.set_cons_zero, List.set_cons_succ]
          refine tkY 9 (hy := (yieldsIf_load_mid (by rfl) 65 _ rfl b2 (off2 + k * 2) rfl (extE y) _ (fun W hSW => hSW.2.2) Tryz.underlying65 rfl (info_rcext y))) (h := ?_)
          try simp only [Act.put, List.setIfInBounds_toArray, List.set_cons_zero, List.set_cons_succ]
          refine tkY 10 (hy := (yieldsIf_eql (by rfl) .neq 65 _ _ _ rfl (.agg (extE x).toArray) (.agg (extE y).toArray) rfl rfl (.bool true) (fun W => guardn_rce _ _ _ _ W) (fun W => HNE.out W))) (h := ?_)
          try simp only [Act.put, List.setIfInBounds_toArray, List.set_cons_zero, List.set_cons_succ]
          refine wpAnyH_done (by kernel_rfl) ?_ _
          refine NoPanic.normal ?_
          clear hHeld
          go_wp2_with fail
          (try simp only [Exit.inBlock, Exit.then])
          go_ret
          exact ⟨by rw [HF.out] <;> rfl, HWW.out _ HBD.out⟩
      · have hki : ¬ (k : Int) < (n : Int) := by omega
        have HF : Hid (d = true) := by
          show _ = _
          rw [HFE.out, decide_eq_true_eq]
          have h3 := HTK.out
          rwa [List.take_of_length_le (by rw [HN.out]; omega), List.take_of_length_le (by rw [HM.out]; omega)] at h3
        clear hkn hk
        go_wp2_with fail
        go_ret
        exact ⟨by rw [HF.out] <;> rfl, HWW.out _ HB.out⟩
end Go.Proofs.YtkpiinjhcckhfaaGreatDoor
