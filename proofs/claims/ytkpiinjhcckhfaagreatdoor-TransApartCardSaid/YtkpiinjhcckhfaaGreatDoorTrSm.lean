/- trans.sameCommit, trans.sameChange: the walks. -/
import Derived.Test.YtkpiinjhcckhfaaGreatDoorTrBox
namespace Go.Proofs.YtkpiinjhcckhfaaGreatDoor
open Go.RowKit Plain Go.ChangeShapes Go.WideShapes Go.ChangeAt Go.Great
set_option linter.unusedVariables false
set_option linter.unusedSimpArgs false
theorem eql_int (s t : Int) (W : World) : (binOp .eql 3 (.int .i64 s) (.int .i64 t)).run Tryz.prog W = .ok (.bool (s == t)) W := by
  simp [binOp, go_sem]
theorem eql_strs (a b : ByteArray) (W : World) : (binOp .eql 9 (.string a) (.string b)).run Tryz.prog W = .ok (.bool (decide (a = b))) W := by
  rw [str_eql]
  have h : (a.data.toList == b.data.toList) = decide (a = b) := by
    rw [Bool.eq_iff_iff, beq_iff_eq, decide_eq_true_eq]
    exact ⟨bytes_ext, fun h => by rw [h]⟩
  rw [h]
theorem guard_eqi (x y : Operand) (s t : Int) (W : World) : (eqGuard .eql 3 x y (.int .i64 s) (.int .i64 t)).run Tryz.prog W = .ok () W := by simp [eqGuard]
def sameCB (a b : CC) : Prop := a.a = b.a ∧ a.c = b.c ∧ a.m = b.m ∧ a.xs = b.xs
instance decSameCB (a b : CC) : Decidable (sameCB a b) := inferInstanceAs (Decidable (_ ∧ _ ∧ _ ∧ _))
def sameXB (a b : CX) : Prop := a.u = b.u ∧ a.t = b.t ∧ a.z = b.z ∧ a.d = b.d ∧ a.xs = b.xs
instance decSameXB (a b : CX) : Decidable (sameXB a b) := inferInstanceAs (Decidable (_ ∧ _ ∧ _ ∧ _ ∧ _))
set_option maxRecDepth 100000 in
set_option maxHeartbeats 32000000 in
theorem samecommit_any (a b : CC) (pa pb : Value) (xa : Option Addr) (xc : Nat) (xb : Option Addr) (yc : Nat) (w : World) (ha : a.tr.length = 20) (hb : b.tr.length = 20) (h1 : RowAt 2 extE w xa a.xs) (h2 : RowAt 2 extE w xb b.xs) (hn : a.xs.length ≤ 100000) (hm : b.xs.length ≤ 100000) :
    Calls Tryz.prog 54 #[.agg (coA a pa (.slice xa a.xs.length xc)), .agg (coA b pb (.slice xb b.xs.length yc))] w fun e w' => e = .returned (.bool (decide (sameCB a b))) ∧ Below w.heap.size w w' := by
  have HA := Lib.hid ha
  have HBL := Lib.hid hb
  have HB0 : Hid (Below w.heap.size w ((w.alloc (.cells (coA a pa (.slice xa a.xs.length xc)) 34)).alloc (.cells (coA b pb (.slice xb b.xs.length yc)) 34))) := ((Below.refl _ _).alloc (Nat.le_refl _) _).alloc (by simp) _
  have HP0 : Hid (Box ((w.alloc (.cells (coA a pa (.slice xa a.xs.length xc)) 34)).alloc (.cells (coA b pb (.slice xb b.xs.length yc)) 34)) w.heap.size (coA a pa (.slice xa a.xs.length xc)) 34) := (Box.new _ _ _).alloc _
  have HP1 : Hid (Box ((w.alloc (.cells (coA a pa (.slice xa a.xs.length xc)) 34)).alloc (.cells (coA b pb (.slice xb b.xs.length yc)) 34)) (w.heap.size + 1) (coA b pb (.slice xb b.xs.length yc)) 34) := by
    have h := Box.new (w.alloc (.cells (coA a pa (.slice xa a.xs.length xc)) 34)) (coA b pb (.slice xb b.xs.length yc)) 34
    rwa [show (w.alloc (.cells (coA a pa (.slice xa a.xs.length xc)) 34)).heap.size = w.heap.size + 1 by simp] at h
  have HEQ := Lib.hid (cequal_any a.xs b.xs xa xc xb yc ((w.alloc (.cells (coA a pa (.slice xa a.xs.length xc)) 34)).alloc (.cells (coA b pb (.slice xb b.xs.length yc)) 34)) (h1.below HB0.out) (h2.below HB0.out) hn hm)
  clear h1 h2 hn hm ha hb
  obtain ⟨d, hd⟩ : ∃ d, decide (sameCB a b) = d := ⟨_, rfl⟩
  rw [hd]
  have HD := Lib.hid hd
  clear hd
  by_cases e0 : a.a = b.a
  rotate_left
  · have HF : Hid (d = false) := by show _ = _; rw [← HD.out, decide_eq_false_iff_not]; exact fun h => e0 h.1
    have HE0 : Hid (∀ W, (binOp .eql 31 (.agg (whoA a.a)) (.agg (whoA b.a))).run Tryz.prog W = .ok (.bool false) W) := fun W => by rw [eql_whos, decide_eq_false e0]
    clear e0
    have HA2 : Hid (CoRow ((w.alloc (.cells (coA a pa (.slice xa a.xs.length xc)) 34)).alloc (.cells (coA b pb (.slice xb b.xs.length yc)) 34)) w.heap.size a pa (.slice xa a.xs.length xc)) := HP0.out.co HA.out
    have HB2 : Hid (CoRow ((w.alloc (.cells (coA a pa (.slice xa a.xs.length xc)) 34)).alloc (.cells (coA b pb (.slice xb b.xs.length yc)) 34)) (w.heap.size + 1) b pb (.slice xb b.xs.length yc)) := HP1.out.co HBL.out
    have ha1 := HA2.out.msg
    have ha2 := HA2.out.exts
    have hb1 := HB2.out.msg
    have hb2 := HB2.out.exts
    go_enter Tryz.func54, Tryz.ntmps54
    go_wp2_with (first
      | refine wpList_load_mid rfl 31 _ rfl w.heap.size 21 rfl (whoL a.a) _ HA2.out.author Tryz.underlying31 rfl (info_whoL _) ?_
      | refine wpList_load_mid rfl 31 _ rfl (w.heap.size + 1) 21 rfl (whoL b.a) _ HB2.out.author Tryz.underlying31 rfl (info_whoL _) ?_
      | refine wpList_eql (by rfl) .eql 31 _ _ _ rfl (.agg (whoA a.a)) (.agg (whoA b.a)) rfl rfl (.bool false) (guarde_who _ _ _ _) HE0.out ?_)
    go_ret
    exact ⟨by rw [HF.out] <;> rfl, HB0.out⟩
  by_cases e1 : a.c = b.c
  rotate_left
  · have HF : Hid (d = false) := by show _ = _; rw [← HD.out, decide_eq_false_iff_not]; exact fun h => e1 h.2.1
    have HE0 : Hid (∀ W, (binOp .eql 31 (.agg (whoA a.a)) (.agg (whoA b.a))).run Tryz.prog W = .ok (.bool true) W) := fun W => by rw [eql_whos, decide_eq_true e0]
    have HE1 : Hid (∀ W, (binOp .eql 31 (.agg (whoA a.c)) (.agg (whoA b.c))).run Tryz.prog W = .ok (.bool false) W) := fun W => by rw [eql_whos, decide_eq_false e1]
    clear e0 e1
    have HA2 : Hid (CoRow ((w.alloc (.cells (coA a pa (.slice xa a.xs.length xc)) 34)).alloc (.cells (coA b pb (.slice xb b.xs.length yc)) 34)) w.heap.size a pa (.slice xa a.xs.length xc)) := HP0.out.co HA.out
    have HB2 : Hid (CoRow ((w.alloc (.cells (coA a pa (.slice xa a.xs.length xc)) 34)).alloc (.cells (coA b pb (.slice xb b.xs.length yc)) 34)) (w.heap.size + 1) b pb (.slice xb b.xs.length yc)) := HP1.out.co HBL.out
    have ha1 := HA2.out.msg
    have ha2 := HA2.out.exts
    have hb1 := HB2.out.msg
    have hb2 := HB2.out.exts
    go_enter Tryz.func54, Tryz.ntmps54
    go_wp2_with (first
      | refine wpList_load_mid rfl 31 _ rfl w.heap.size 21 rfl (whoL a.a) _ HA2.out.author Tryz.underlying31 rfl (info_whoL _) ?_
      | refine wpList_load_mid rfl 31 _ rfl (w.heap.size + 1) 21 rfl (whoL b.a) _ HB2.out.author Tryz.underlying31 rfl (info_whoL _) ?_
      | refine wpList_eql (by rfl) .eql 31 _ _ _ rfl (.agg (whoA a.a)) (.agg (whoA b.a)) rfl rfl (.bool true) (guarde_who _ _ _ _) HE0.out ?_
      | refine wpList_load_mid_g rfl 31 _ rfl w.heap.size 25 rfl (whoL a.c) _ HA2.out.committer Tryz.underlying31 rfl (info_whoL _) ?_
      | refine wpList_load_mid_g rfl 31 _ rfl (w.heap.size + 1) 25 rfl (whoL b.c) _ HB2.out.committer Tryz.underlying31 rfl (info_whoL _) ?_
      | refine wpList_eql (by rfl) .eql 31 _ _ _ rfl (.agg (whoA a.c)) (.agg (whoA b.c)) rfl rfl (.bool false) (guarde_who _ _ _ _) HE1.out ?_)
    go_ret
    exact ⟨by rw [HF.out] <;> rfl, HB0.out⟩
  by_cases e2 : a.m = b.m
  rotate_left
  · have HF : Hid (d = false) := by show _ = _; rw [← HD.out, decide_eq_false_iff_not]; exact fun h => e2 h.2.2.1
    have HE0 : Hid (∀ W, (binOp .eql 31 (.agg (whoA a.a)) (.agg (whoA b.a))).run Tryz.prog W = .ok (.bool true) W) := fun W => by rw [eql_whos, decide_eq_true e0]
    have HE1 : Hid (∀ W, (binOp .eql 31 (.agg (whoA a.c)) (.agg (whoA b.c))).run Tryz.prog W = .ok (.bool true) W) := fun W => by rw [eql_whos, decide_eq_true e1]
    have HE2 : Hid (∀ W, (binOp .eql 9 (.string a.m) (.string b.m)).run Tryz.prog W = .ok (.bool false) W) := fun W => by rw [eql_strs, decide_eq_false e2]
    clear e0 e1 e2
    have HA2 : Hid (CoRow ((w.alloc (.cells (coA a pa (.slice xa a.xs.length xc)) 34)).alloc (.cells (coA b pb (.slice xb b.xs.length yc)) 34)) w.heap.size a pa (.slice xa a.xs.length xc)) := HP0.out.co HA.out
    have HB2 : Hid (CoRow ((w.alloc (.cells (coA a pa (.slice xa a.xs.length xc)) 34)).alloc (.cells (coA b pb (.slice xb b.xs.length yc)) 34)) (w.heap.size + 1) b pb (.slice xb b.xs.length yc)) := HP1.out.co HBL.out
    have ha1 := HA2.out.msg
    have ha2 := HA2.out.exts
    have hb1 := HB2.out.msg
    have hb2 := HB2.out.exts
    go_enter Tryz.func54, Tryz.ntmps54
    go_wp2_with (first
      | refine wpList_load_mid rfl 31 _ rfl w.heap.size 21 rfl (whoL a.a) _ HA2.out.author Tryz.underlying31 rfl (info_whoL _) ?_
      | refine wpList_load_mid rfl 31 _ rfl (w.heap.size + 1) 21 rfl (whoL b.a) _ HB2.out.author Tryz.underlying31 rfl (info_whoL _) ?_
      | refine wpList_eql (by rfl) .eql 31 _ _ _ rfl (.agg (whoA a.a)) (.agg (whoA b.a)) rfl rfl (.bool true) (guarde_who _ _ _ _) HE0.out ?_
      | refine wpList_load_mid_g rfl 31 _ rfl w.heap.size 25 rfl (whoL a.c) _ HA2.out.committer Tryz.underlying31 rfl (info_whoL _) ?_
      | refine wpList_load_mid_g rfl 31 _ rfl (w.heap.size + 1) 25 rfl (whoL b.c) _ HB2.out.committer Tryz.underlying31 rfl (info_whoL _) ?_
      | refine wpList_eql (by rfl) .eql 31 _ _ _ rfl (.agg (whoA a.c)) (.agg (whoA b.c)) rfl rfl (.bool true) (guarde_who _ _ _ _) HE1.out ?_
      | refine wpList_eql (by rfl) .eql 9 _ _ _ rfl (.string a.m) (.string b.m) rfl rfl (.bool false) (guard_eq _ _ _ _) HE2.out ?_)
    go_ret
    exact ⟨by rw [HF.out] <;> rfl, HB0.out⟩
  have HF : Hid (d = decide (a.xs = b.xs)) := by show _ = _; rw [← HD.out, Bool.eq_iff_iff, decide_eq_true_eq, decide_eq_true_eq]; exact ⟨fun h => h.2.2.2, fun h => ⟨e0, e1, e2, h⟩⟩
  have HE0 : Hid (∀ W, (binOp .eql 31 (.agg (whoA a.a)) (.agg (whoA b.a))).run Tryz.prog W = .ok (.bool true) W) := fun W => by rw [eql_whos, decide_eq_true e0]
  have HE1 : Hid (∀ W, (binOp .eql 31 (.agg (whoA a.c)) (.agg (whoA b.c))).run Tryz.prog W = .ok (.bool true) W) := fun W => by rw [eql_whos, decide_eq_true e1]
  have HE2 : Hid (∀ W, (binOp .eql 9 (.string a.m) (.string b.m)).run Tryz.prog W = .ok (.bool true) W) := fun W => by rw [eql_strs, decide_eq_true e2]
  clear e0 e1 e2
  have HA2 : Hid (CoRow ((w.alloc (.cells (coA a pa (.slice xa a.xs.length xc)) 34)).alloc (.cells (coA b pb (.slice xb b.xs.length yc)) 34)) w.heap.size a pa (.slice xa a.xs.length xc)) := HP0.out.co HA.out
  have HB2 : Hid (CoRow ((w.alloc (.cells (coA a pa (.slice xa a.xs.length xc)) 34)).alloc (.cells (coA b pb (.slice xb b.xs.length yc)) 34)) (w.heap.size + 1) b pb (.slice xb b.xs.length yc)) := HP1.out.co HBL.out
  have ha1 := HA2.out.msg
  have ha2 := HA2.out.exts
  have hb1 := HB2.out.msg
  have hb2 := HB2.out.exts
  go_enter Tryz.func54, Tryz.ntmps54
  go_wp2_with (first
    | refine wpList_load_mid rfl 31 _ rfl w.heap.size 21 rfl (whoL a.a) _ HA2.out.author Tryz.underlying31 rfl (info_whoL _) ?_
    | refine wpList_load_mid rfl 31 _ rfl (w.heap.size + 1) 21 rfl (whoL b.a) _ HB2.out.author Tryz.underlying31 rfl (info_whoL _) ?_
    | refine wpList_eql (by rfl) .eql 31 _ _ _ rfl (.agg (whoA a.a)) (.agg (whoA b.a)) rfl rfl (.bool true) (guarde_who _ _ _ _) HE0.out ?_
    | refine wpList_load_mid_g rfl 31 _ rfl w.heap.size 25 rfl (whoL a.c) _ HA2.out.committer Tryz.underlying31 rfl (info_whoL _) ?_
    | refine wpList_load_mid_g rfl 31 _ rfl (w.heap.size + 1) 25 rfl (whoL b.c) _ HB2.out.committer Tryz.underlying31 rfl (info_whoL _) ?_
    | refine wpList_eql (by rfl) .eql 31 _ _ _ rfl (.agg (whoA a.c)) (.agg (whoA b.c)) rfl rfl (.bool true) (guarde_who _ _ _ _) HE1.out ?_
    | refine wpList_eql (by rfl) .eql 9 _ _ _ rfl (.string a.m) (.string b.m) rfl rfl (.bool true) (guard_eq _ _ _ _) HE2.out ?_)
  refine HEQ.out.mono ?_
  rintro e w2 ⟨rfl, hb⟩
  have HB2' := Lib.hid (HB0.out.trans (hb.mono HB0.out.size))
  clear hb
  obtain ⟨q, hq⟩ : ∃ q, decide (a.xs = b.xs) = q := ⟨_, rfl⟩
  rw [hq] at HF ⊢
  clear hq
  go_wp2_with fail
  go_ret
  exact ⟨by rw [HF.out] <;> rfl, HB2'.out⟩
set_option maxRecDepth 100000 in
set_option maxHeartbeats 32000000 in
theorem samechange_any (a b : CX) (pa pb : Value) (xa : Option Addr) (xc : Nat) (xb : Option Addr) (yc : Nat) (w : World) (ha : a.n.length = 20) (hb : b.n.length = 20) (h1 : RowAt 2 extE w xa a.xs) (h2 : RowAt 2 extE w xb b.xs) (hn : a.xs.length ≤ 100000) (hm : b.xs.length ≤ 100000) :
    Calls Tryz.prog 64 #[.agg (chA a (.slice xa a.xs.length xc) pa), .agg (chA b (.slice xb b.xs.length yc) pb)] w fun e w' => e = .returned (.bool (decide (sameXB a b))) ∧ Below w.heap.size w w' := by
  have HA := Lib.hid ha
  have HBL := Lib.hid hb
  have HB0 : Hid (Below w.heap.size w ((w.alloc (.cells (chA a (.slice xa a.xs.length xc) pa) 40)).alloc (.cells (chA b (.slice xb b.xs.length yc) pb) 40))) := ((Below.refl _ _).alloc (Nat.le_refl _) _).alloc (by simp) _
  have HP0 : Hid (Box ((w.alloc (.cells (chA a (.slice xa a.xs.length xc) pa) 40)).alloc (.cells (chA b (.slice xb b.xs.length yc) pb) 40)) w.heap.size (chA a (.slice xa a.xs.length xc) pa) 40) := (Box.new _ _ _).alloc _
  have HP1 : Hid (Box ((w.alloc (.cells (chA a (.slice xa a.xs.length xc) pa) 40)).alloc (.cells (chA b (.slice xb b.xs.length yc) pb) 40)) (w.heap.size + 1) (chA b (.slice xb b.xs.length yc) pb) 40) := by
    have h := Box.new (w.alloc (.cells (chA a (.slice xa a.xs.length xc) pa) 40)) (chA b (.slice xb b.xs.length yc) pb) 40
    rwa [show (w.alloc (.cells (chA a (.slice xa a.xs.length xc) pa) 40)).heap.size = w.heap.size + 1 by simp] at h
  have HEQ := Lib.hid (xequal_any a.xs b.xs xa xc xb yc ((w.alloc (.cells (chA a (.slice xa a.xs.length xc) pa) 40)).alloc (.cells (chA b (.slice xb b.xs.length yc) pb) 40)) (h1.below HB0.out) (h2.below HB0.out) hn hm)
  clear h1 h2 hn hm ha hb
  obtain ⟨d, hd⟩ : ∃ d, decide (sameXB a b) = d := ⟨_, rfl⟩
  rw [hd]
  have HD := Lib.hid hd
  clear hd
  by_cases e0 : a.u = b.u
  rotate_left
  · have HF : Hid (d = false) := by show _ = _; rw [← HD.out, decide_eq_false_iff_not]; exact fun h => e0 h.1
    have HE0 : Hid (∀ W, (binOp .eql 9 (.string a.u) (.string b.u)).run Tryz.prog W = .ok (.bool false) W) := fun W => by rw [eql_strs, decide_eq_false e0]
    clear e0
    have HA2 : Hid (ChCells ((w.alloc (.cells (chA a (.slice xa a.xs.length xc) pa) 40)).alloc (.cells (chA b (.slice xb b.xs.length yc) pb) 40)) w.heap.size a (.slice xa a.xs.length xc) pa) := HP0.out.ch HA.out
    have HB2 : Hid (ChCells ((w.alloc (.cells (chA a (.slice xa a.xs.length xc) pa) 40)).alloc (.cells (chA b (.slice xb b.xs.length yc) pb) 40)) (w.heap.size + 1) b (.slice xb b.xs.length yc) pb) := HP1.out.ch HBL.out
    have ha1 := HA2.out.u
    have ha2 := HA2.out.t
    have ha3 := HA2.out.z
    have ha4 := HA2.out.xs
    have ha5 := HA2.out.d
    have hb1 := HB2.out.u
    have hb2 := HB2.out.t
    have hb3 := HB2.out.z
    have hb4 := HB2.out.xs
    have hb5 := HB2.out.d
    go_enter Tryz.func64, Tryz.ntmps64
    go_wp2_with (first
      | refine wpList_eql (by rfl) .eql 9 _ _ _ rfl (.string a.u) (.string b.u) rfl rfl (.bool false) (guard_eq _ _ _ _) HE0.out ?_)
    go_ret
    exact ⟨by rw [HF.out] <;> rfl, HB0.out⟩
  by_cases e1 : a.t = b.t
  rotate_left
  · have HF : Hid (d = false) := by show _ = _; rw [← HD.out, decide_eq_false_iff_not]; exact fun h => e1 h.2.1
    have HE0 : Hid (∀ W, (binOp .eql 9 (.string a.u) (.string b.u)).run Tryz.prog W = .ok (.bool true) W) := fun W => by rw [eql_strs, decide_eq_true e0]
    have HE1 : Hid (∀ W, (binOp .eql 3 (.int .i64 a.t) (.int .i64 b.t)).run Tryz.prog W = .ok (.bool false) W) := fun W => by rw [eql_int, beq_eq_false_iff_ne.2 e1]
    clear e0 e1
    have HA2 : Hid (ChCells ((w.alloc (.cells (chA a (.slice xa a.xs.length xc) pa) 40)).alloc (.cells (chA b (.slice xb b.xs.length yc) pb) 40)) w.heap.size a (.slice xa a.xs.length xc) pa) := HP0.out.ch HA.out
    have HB2 : Hid (ChCells ((w.alloc (.cells (chA a (.slice xa a.xs.length xc) pa) 40)).alloc (.cells (chA b (.slice xb b.xs.length yc) pb) 40)) (w.heap.size + 1) b (.slice xb b.xs.length yc) pb) := HP1.out.ch HBL.out
    have ha1 := HA2.out.u
    have ha2 := HA2.out.t
    have ha3 := HA2.out.z
    have ha4 := HA2.out.xs
    have ha5 := HA2.out.d
    have hb1 := HB2.out.u
    have hb2 := HB2.out.t
    have hb3 := HB2.out.z
    have hb4 := HB2.out.xs
    have hb5 := HB2.out.d
    go_enter Tryz.func64, Tryz.ntmps64
    go_wp2_with (first
      | refine wpList_eql (by rfl) .eql 9 _ _ _ rfl (.string a.u) (.string b.u) rfl rfl (.bool true) (guard_eq _ _ _ _) HE0.out ?_
      | refine wpList_eql (by rfl) .eql 3 _ _ _ rfl (.int .i64 a.t) (.int .i64 b.t) rfl rfl (.bool false) (guard_eqi _ _ _ _) HE1.out ?_)
    go_ret
    exact ⟨by rw [HF.out] <;> rfl, HB0.out⟩
  by_cases e2 : a.z = b.z
  rotate_left
  · have HF : Hid (d = false) := by show _ = _; rw [← HD.out, decide_eq_false_iff_not]; exact fun h => e2 h.2.2.1
    have HE0 : Hid (∀ W, (binOp .eql 9 (.string a.u) (.string b.u)).run Tryz.prog W = .ok (.bool true) W) := fun W => by rw [eql_strs, decide_eq_true e0]
    have HE1 : Hid (∀ W, (binOp .eql 3 (.int .i64 a.t) (.int .i64 b.t)).run Tryz.prog W = .ok (.bool true) W) := fun W => by rw [eql_int, beq_iff_eq.2 e1]
    have HE2 : Hid (∀ W, (binOp .eql 3 (.int .i64 a.z) (.int .i64 b.z)).run Tryz.prog W = .ok (.bool false) W) := fun W => by rw [eql_int, beq_eq_false_iff_ne.2 e2]
    clear e0 e1 e2
    have HA2 : Hid (ChCells ((w.alloc (.cells (chA a (.slice xa a.xs.length xc) pa) 40)).alloc (.cells (chA b (.slice xb b.xs.length yc) pb) 40)) w.heap.size a (.slice xa a.xs.length xc) pa) := HP0.out.ch HA.out
    have HB2 : Hid (ChCells ((w.alloc (.cells (chA a (.slice xa a.xs.length xc) pa) 40)).alloc (.cells (chA b (.slice xb b.xs.length yc) pb) 40)) (w.heap.size + 1) b (.slice xb b.xs.length yc) pb) := HP1.out.ch HBL.out
    have ha1 := HA2.out.u
    have ha2 := HA2.out.t
    have ha3 := HA2.out.z
    have ha4 := HA2.out.xs
    have ha5 := HA2.out.d
    have hb1 := HB2.out.u
    have hb2 := HB2.out.t
    have hb3 := HB2.out.z
    have hb4 := HB2.out.xs
    have hb5 := HB2.out.d
    go_enter Tryz.func64, Tryz.ntmps64
    go_wp2_with (first
      | refine wpList_eql (by rfl) .eql 9 _ _ _ rfl (.string a.u) (.string b.u) rfl rfl (.bool true) (guard_eq _ _ _ _) HE0.out ?_
      | refine wpList_eql (by rfl) .eql 3 _ _ _ rfl (.int .i64 a.t) (.int .i64 b.t) rfl rfl (.bool true) (guard_eqi _ _ _ _) HE1.out ?_
      | refine wpList_eql (by rfl) .eql 3 _ _ _ rfl (.int .i64 a.z) (.int .i64 b.z) rfl rfl (.bool false) (guard_eqi _ _ _ _) HE2.out ?_)
    go_ret
    exact ⟨by rw [HF.out] <;> rfl, HB0.out⟩
  by_cases e3 : a.d = b.d
  rotate_left
  · have HF : Hid (d = false) := by show _ = _; rw [← HD.out, decide_eq_false_iff_not]; exact fun h => e3 h.2.2.2.1
    have HE0 : Hid (∀ W, (binOp .eql 9 (.string a.u) (.string b.u)).run Tryz.prog W = .ok (.bool true) W) := fun W => by rw [eql_strs, decide_eq_true e0]
    have HE1 : Hid (∀ W, (binOp .eql 3 (.int .i64 a.t) (.int .i64 b.t)).run Tryz.prog W = .ok (.bool true) W) := fun W => by rw [eql_int, beq_iff_eq.2 e1]
    have HE2 : Hid (∀ W, (binOp .eql 3 (.int .i64 a.z) (.int .i64 b.z)).run Tryz.prog W = .ok (.bool true) W) := fun W => by rw [eql_int, beq_iff_eq.2 e2]
    have HE3 : Hid (∀ W, (binOp .eql 9 (.string a.d) (.string b.d)).run Tryz.prog W = .ok (.bool false) W) := fun W => by rw [eql_strs, decide_eq_false e3]
    clear e0 e1 e2 e3
    have HA2 : Hid (ChCells ((w.alloc (.cells (chA a (.slice xa a.xs.length xc) pa) 40)).alloc (.cells (chA b (.slice xb b.xs.length yc) pb) 40)) w.heap.size a (.slice xa a.xs.length xc) pa) := HP0.out.ch HA.out
    have HB2 : Hid (ChCells ((w.alloc (.cells (chA a (.slice xa a.xs.length xc) pa) 40)).alloc (.cells (chA b (.slice xb b.xs.length yc) pb) 40)) (w.heap.size + 1) b (.slice xb b.xs.length yc) pb) := HP1.out.ch HBL.out
    have ha1 := HA2.out.u
    have ha2 := HA2.out.t
    have ha3 := HA2.out.z
    have ha4 := HA2.out.xs
    have ha5 := HA2.out.d
    have hb1 := HB2.out.u
    have hb2 := HB2.out.t
    have hb3 := HB2.out.z
    have hb4 := HB2.out.xs
    have hb5 := HB2.out.d
    go_enter Tryz.func64, Tryz.ntmps64
    go_wp2_with (first
      | refine wpList_eql (by rfl) .eql 9 _ _ _ rfl (.string a.u) (.string b.u) rfl rfl (.bool true) (guard_eq _ _ _ _) HE0.out ?_
      | refine wpList_eql (by rfl) .eql 3 _ _ _ rfl (.int .i64 a.t) (.int .i64 b.t) rfl rfl (.bool true) (guard_eqi _ _ _ _) HE1.out ?_
      | refine wpList_eql (by rfl) .eql 3 _ _ _ rfl (.int .i64 a.z) (.int .i64 b.z) rfl rfl (.bool true) (guard_eqi _ _ _ _) HE2.out ?_
      | refine wpList_eql (by rfl) .eql 9 _ _ _ rfl (.string a.d) (.string b.d) rfl rfl (.bool false) (guard_eq _ _ _ _) HE3.out ?_)
    go_ret
    exact ⟨by rw [HF.out] <;> rfl, HB0.out⟩
  have HF : Hid (d = decide (a.xs = b.xs)) := by show _ = _; rw [← HD.out, Bool.eq_iff_iff, decide_eq_true_eq, decide_eq_true_eq]; exact ⟨fun h => h.2.2.2.2, fun h => ⟨e0, e1, e2, e3, h⟩⟩
  have HE0 : Hid (∀ W, (binOp .eql 9 (.string a.u) (.string b.u)).run Tryz.prog W = .ok (.bool true) W) := fun W => by rw [eql_strs, decide_eq_true e0]
  have HE1 : Hid (∀ W, (binOp .eql 3 (.int .i64 a.t) (.int .i64 b.t)).run Tryz.prog W = .ok (.bool true) W) := fun W => by rw [eql_int, beq_iff_eq.2 e1]
  have HE2 : Hid (∀ W, (binOp .eql 3 (.int .i64 a.z) (.int .i64 b.z)).run Tryz.prog W = .ok (.bool true) W) := fun W => by rw [eql_int, beq_iff_eq.2 e2]
  have HE3 : Hid (∀ W, (binOp .eql 9 (.string a.d) (.string b.d)).run Tryz.prog W = .ok (.bool true) W) := fun W => by rw [eql_strs, decide_eq_true e3]
  clear e0 e1 e2 e3
  have HA2 : Hid (ChCells ((w.alloc (.cells (chA a (.slice xa a.xs.length xc) pa) 40)).alloc (.cells (chA b (.slice xb b.xs.length yc) pb) 40)) w.heap.size a (.slice xa a.xs.length xc) pa) := HP0.out.ch HA.out
  have HB2 : Hid (ChCells ((w.alloc (.cells (chA a (.slice xa a.xs.length xc) pa) 40)).alloc (.cells (chA b (.slice xb b.xs.length yc) pb) 40)) (w.heap.size + 1) b (.slice xb b.xs.length yc) pb) := HP1.out.ch HBL.out
  have ha1 := HA2.out.u
  have ha2 := HA2.out.t
  have ha3 := HA2.out.z
  have ha4 := HA2.out.xs
  have ha5 := HA2.out.d
  have hb1 := HB2.out.u
  have hb2 := HB2.out.t
  have hb3 := HB2.out.z
  have hb4 := HB2.out.xs
  have hb5 := HB2.out.d
  go_enter Tryz.func64, Tryz.ntmps64
  go_wp2_with (first
    | refine wpList_eql (by rfl) .eql 9 _ _ _ rfl (.string a.u) (.string b.u) rfl rfl (.bool true) (guard_eq _ _ _ _) HE0.out ?_
    | refine wpList_eql (by rfl) .eql 3 _ _ _ rfl (.int .i64 a.t) (.int .i64 b.t) rfl rfl (.bool true) (guard_eqi _ _ _ _) HE1.out ?_
    | refine wpList_eql (by rfl) .eql 3 _ _ _ rfl (.int .i64 a.z) (.int .i64 b.z) rfl rfl (.bool true) (guard_eqi _ _ _ _) HE2.out ?_
    | refine wpList_eql (by rfl) .eql 9 _ _ _ rfl (.string a.d) (.string b.d) rfl rfl (.bool true) (guard_eq _ _ _ _) HE3.out ?_)
  refine HEQ.out.mono ?_
  rintro e w2 ⟨rfl, hb⟩
  have HB2' := Lib.hid (HB0.out.trans (hb.mono HB0.out.size))
  clear hb
  obtain ⟨q, hq⟩ : ∃ q, decide (a.xs = b.xs) = q := ⟨_, rfl⟩
  rw [hq] at HF ⊢
  clear hq
  go_wp2_with fail
  go_ret
  exact ⟨by rw [HF.out] <;> rfl, HB2'.out⟩
end Go.Proofs.YtkpiinjhcckhfaaGreatDoor
