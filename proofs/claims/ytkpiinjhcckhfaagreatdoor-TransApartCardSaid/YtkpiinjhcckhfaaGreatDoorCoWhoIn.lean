/- The law's who: the walk; a Who that came in; Whos that are the same. -/
import Derived.Test.YtkpiinjhcckhfaaGreatDoorCoBackM
import Derived.Laws.StructEq
import Derived.ChangeKeysEq
import Derived.Test.YtkpiinjhcckhfaaGreatDoorChMake
import Derived.Test.YtkpiinjhcckhfaaGreatDoorChSame
/-! The law's who: the walk; a Who that came in; Whos that are the same. -/
namespace Go.Proofs.YtkpiinjhcckhfaaGreatDoor
open Go.RowKit Plain Go.ChangeShapes Go.WideShapes Go.ChangeAt
set_option linter.unusedVariables false
set_option linter.unusedSimpArgs false
def fewW (x : WX) : WX := ⟨cutB 200 x.n, cutB 200 x.m, x.t, cutB 200 x.z⟩
/-- A Who that came in: every size is one that a program may have. -/
structure InWho (x : WX) : Prop where
  ns : x.n.size ≤ maxLen
  ms : x.m.size ≤ maxLen
  zs : x.z.size ≤ maxLen
  t64 : -9223372036854775808 ≤ x.t ∧ x.t ≤ 9223372036854775807
theorem few_who {x : WX} (h : InWho x) : WhoSmall (fewW x) := by
  have h1 := cutB_size 200 x.n
  have h2 := cutB_size 200 x.m
  have h3 := cutB_size 200 x.z
  exact ⟨Nat.le_trans h1 (by decide), Nat.le_trans h2 (by decide), Nat.le_trans h3 (by decide), h.t64⟩
set_option maxRecDepth 100000 in
theorem trod_who {H : Type} {enc : TypeId × Value → H} {w : World} {base : Nat} {held : Bool} {fuel : Nat} {cs : List Value} {y : DataW H × List MemPlace}
    (hl : cs.length = 4) (h : DataW.trod enc Tryz.prog w base (fun _ => true) held fuel 25 cs = some y) : ∃ x, cs = whoL x ∧ InWho x := by
  obtain ⟨ys, n, -, -, -, hyl, hg⟩ := DataW.trod_struct Tryz.underlying25 h
  have hC1 : Tryz.prog.cellsOf 9 = 1 := by kernel_rfl
  have hC3 : Tryz.prog.cellsOf 3 = 1 := by kernel_rfl
  have hyl4 : ys.length = 4 := hyl
  have g0 := hg 0 _ rfl
  have g1 := hg 1 _ rfl
  have g2 := hg 2 _ rfl
  have g3 := hg 3 _ rfl
  rw [List.getElem?_eq_getElem (by omega)] at g0 g1 g2 g3
  change DataW.trod enc Tryz.prog w base (fun _ => true) held n 9 ((cs.drop 0).take (Tryz.prog.cellsOf 9)) = some _ at g0
  rw [hC1] at g0
  change DataW.trod enc Tryz.prog w base (fun _ => true) held n 9 ((cs.drop 1).take (Tryz.prog.cellsOf 9)) = some _ at g1
  rw [hC1] at g1
  change DataW.trod enc Tryz.prog w base (fun _ => true) held n 3 ((cs.drop 2).take (Tryz.prog.cellsOf 3)) = some _ at g2
  rw [hC3] at g2
  change DataW.trod enc Tryz.prog w base (fun _ => true) held n 9 ((cs.drop 3).take (Tryz.prog.cellsOf 9)) = some _ at g3
  rw [hC1] at g3
  obtain ⟨N, hN, -, hns⟩ := DataW.trod_string Tryz.underlying9 g0
  obtain ⟨M, hM, -, hms⟩ := DataW.trod_string Tryz.underlying9 g1
  obtain ⟨T, hT, -, hts⟩ := DataW.trod_int Tryz.underlying3 g2
  obtain ⟨Z, hZ, -, hzs⟩ := DataW.trod_string Tryz.underlying9 g3
  refine ⟨⟨N, M, T, Z⟩, ?_, hns, hms, hzs, i64_of hts⟩
  have step : ∀ (i : Nat) (u : Value), (cs.drop i).take 1 = [u] → cs.drop i = u :: cs.drop (i + 1) := fun i u h => by
    rw [← List.take_append_drop 1 (cs.drop i), h, List.drop_drop]
    rfl
  have e4 : cs.drop 4 = [] := List.drop_of_length_le (by omega)
  have := step 0 _ hN
  rw [List.drop_zero, step 1 _ hM, step 2 _ hT, step 3 _ hZ, e4] at this
  exact this
theorem fields_who : ∃ f1 f2 f3 f4, (Tryz.prog.fieldsOf 31).toList = [f1, f2, f3, f4] ∧ (f1.name ≠ "_" ∧ f2.name ≠ "_" ∧ f3.name ≠ "_" ∧ f4.name ≠ "_") ∧ (f1.type = 9 ∧ f1.offset = 0) ∧ (f2.type = 9 ∧ f2.offset = 1) ∧ (f3.type = 3 ∧ f3.offset = 2) ∧ f4.type = 9 ∧ f4.offset = 3 := by
  have h : (Tryz.prog.fieldsOf 31).toList.map (fun f => (f.name == "_", f.type, f.offset)) = [(false, 9, 0), (false, 9, 1), (false, 3, 2), (false, 9, 3)] := by kernel_rfl
  generalize (Tryz.prog.fieldsOf 31).toList = l at *
  match l, h with
  | [], h => cases h
  | [_], h => simp at h
  | [_, _], h => simp at h
  | [_, _, _], h => simp at h
  | _ :: _ :: _ :: _ :: _ :: _, h => simp at h
  | [f1, f2, f3, f4], h =>
    simp only [List.map_cons, List.map_nil, List.cons.injEq, Prod.mk.injEq, and_true, beq_eq_false_iff_ne] at h
    exact ⟨f1, f2, f3, f4, rfl, ⟨h.1.1, h.2.1.1, h.2.2.1.1, h.2.2.2.1⟩, h.1.2, h.2.1.2, h.2.2.1.2, h.2.2.2.2⟩
set_option maxRecDepth 100000 in
theorem eqin_who (d : Nat) (w : World) (x : WX) : (Op.equalIn (d + 4) 31 (.agg (whoA x)) (.agg (whoA x))).run Tryz.prog w = .ok true w := by
  obtain ⟨f1, f2, f3, f4, hf, ⟨n1, n2, n3, n4⟩, ⟨t1, o1⟩, ⟨t2, o2⟩, ⟨t3, o3⟩, t4, o4⟩ := fields_who
  rw [run_equalIn_struct w (d + 3) 31 _ _ Tryz.underlying31 (by kernel_rfl), hf]
  refine eqFields_self _ _ _ _ _ fun f hm => ?_
  simp only [List.mem_cons, List.not_mem_nil, or_false] at hm
  rcases hm with rfl | rfl | rfl | rfl
  · exact ⟨n1, .string x.n, by rw [t1, o1]; exact run_part_plain w (by kernel_rfl) rfl, by rw [t1, run_equalIn_string w (d + 2) 9 x.n x.n Tryz.underlying9, beq_self_eq_true]⟩
  · exact ⟨n2, .string x.m, by rw [t2, o2]; exact run_part_plain w (by kernel_rfl) rfl, by rw [t2, run_equalIn_string w (d + 2) 9 x.m x.m Tryz.underlying9, beq_self_eq_true]⟩
  · exact ⟨n3, .int .i64 x.t, by rw [t3, o3]; exact run_part_plain w (by kernel_rfl) rfl, by rw [t3, run_equalIn_int w (d + 2) 3 .i64 .i64 x.t x.t Tryz.underlying3, beq_self_eq_true]⟩
  · exact ⟨n4, .string x.z, by rw [t4, o4]; exact run_part_plain w (by kernel_rfl) rfl, by rw [t4, run_equalIn_string w (d + 2) 9 x.z x.z Tryz.underlying9, beq_self_eq_true]⟩
theorem eql_who (x : WX) (w : World) : (binOp .eql 31 (.agg (whoA x)) (.agg (whoA x))).run Tryz.prog w = .ok (.bool true) w := by
  rw [run_eql_struct, show (10000 : Nat) = 9996 + 4 from rfl, eqin_who]
  rfl
theorem guarde_who (x y : Operand) (u v : Array Value) (W : World) : (eqGuard .eql 31 x y (.agg u) (.agg v)).run Tryz.prog W = .ok () W := by simp [eqGuard]
theorem fields_rwho : ∃ f1 f2 f3 f4, (Tryz.prog.fieldsOf 25).toList = [f1, f2, f3, f4] ∧ (f1.name ≠ "_" ∧ f2.name ≠ "_" ∧ f3.name ≠ "_" ∧ f4.name ≠ "_") ∧ (f1.type = 9 ∧ f1.offset = 0) ∧ (f2.type = 9 ∧ f2.offset = 1) ∧ (f3.type = 3 ∧ f3.offset = 2) ∧ f4.type = 9 ∧ f4.offset = 3 := by
  have h : (Tryz.prog.fieldsOf 25).toList.map (fun f => (f.name == "_", f.type, f.offset)) = [(false, 9, 0), (false, 9, 1), (false, 3, 2), (false, 9, 3)] := by kernel_rfl
  generalize (Tryz.prog.fieldsOf 25).toList = l at *
  match l, h with
  | [], h => cases h
  | [_], h => simp at h
  | [_, _], h => simp at h
  | [_, _, _], h => simp at h
  | _ :: _ :: _ :: _ :: _ :: _, h => simp at h
  | [f1, f2, f3, f4], h =>
    simp only [List.map_cons, List.map_nil, List.cons.injEq, Prod.mk.injEq, and_true, beq_eq_false_iff_ne] at h
    exact ⟨f1, f2, f3, f4, rfl, ⟨h.1.1, h.2.1.1, h.2.2.1.1, h.2.2.2.1⟩, h.1.2, h.2.1.2, h.2.2.1.2, h.2.2.2.2⟩
set_option maxRecDepth 100000 in
theorem eqin_rwho (d : Nat) (w : World) (x : WX) : (Op.equalIn (d + 4) 25 (.agg (whoA x)) (.agg (whoA x))).run Tryz.prog w = .ok true w := by
  obtain ⟨f1, f2, f3, f4, hf, ⟨n1, n2, n3, n4⟩, ⟨t1, o1⟩, ⟨t2, o2⟩, ⟨t3, o3⟩, t4, o4⟩ := fields_rwho
  rw [run_equalIn_struct w (d + 3) 25 _ _ Tryz.underlying25 (by kernel_rfl), hf]
  refine eqFields_self _ _ _ _ _ fun f hm => ?_
  simp only [List.mem_cons, List.not_mem_nil, or_false] at hm
  rcases hm with rfl | rfl | rfl | rfl
  · exact ⟨n1, .string x.n, by rw [t1, o1]; exact run_part_plain w (by kernel_rfl) rfl, by rw [t1, run_equalIn_string w (d + 2) 9 x.n x.n Tryz.underlying9, beq_self_eq_true]⟩
  · exact ⟨n2, .string x.m, by rw [t2, o2]; exact run_part_plain w (by kernel_rfl) rfl, by rw [t2, run_equalIn_string w (d + 2) 9 x.m x.m Tryz.underlying9, beq_self_eq_true]⟩
  · exact ⟨n3, .int .i64 x.t, by rw [t3, o3]; exact run_part_plain w (by kernel_rfl) rfl, by rw [t3, run_equalIn_int w (d + 2) 3 .i64 .i64 x.t x.t Tryz.underlying3, beq_self_eq_true]⟩
  · exact ⟨n4, .string x.z, by rw [t4, o4]; exact run_part_plain w (by kernel_rfl) rfl, by rw [t4, run_equalIn_string w (d + 2) 9 x.z x.z Tryz.underlying9, beq_self_eq_true]⟩
theorem neq_rwho (x : WX) (w : World) : (binOp .neq 25 (.agg (whoA x)) (.agg (whoA x))).run Tryz.prog w = .ok (.bool false) w := by
  rw [run_neq_struct, show (10000 : Nat) = 9996 + 4 from rfl, eqin_rwho]
  rfl
theorem guardn_rwho (x y : Operand) (u v : Array Value) (W : World) : (eqGuard .neq 25 x y (.agg u) (.agg v)).run Tryz.prog W = .ok () W := by simp [eqGuard]
set_option maxRecDepth 100000 in
set_option maxHeartbeats 8000000 in
theorem whoin_any (x : WX) (w : World) : Calls Tryz.prog 27 #[.agg (whoA x)] w fun e w' => e = .returned (.agg (whoA (fewW x))) ∧ Below w.heap.size w w' := by
  have HB : Hid (Below w.heap.size w ((w.alloc (.cells (whoA x) 25)).alloc (.cells #[.string ⟨#[]⟩, .string ⟨#[]⟩, .int .i64 0, .string ⟨#[]⟩] 31))) := ((Below.refl _ _).alloc (Nat.le_refl _) _).alloc (by simp) _
  have HR0 : Hid (((w.alloc (.cells (whoA x) 25)).alloc (.cells #[.string ⟨#[]⟩, .string ⟨#[]⟩, .int .i64 0, .string ⟨#[]⟩] 31)).heap[w.heap.size]? = some (.cells (whoA x) 25 (0, 0))) := (Below.heap_alloc _ _ _ (by simp)).trans (heap_alloc_new _ _)
  have HZ : Hid (((w.alloc (.cells (whoA x) 25)).alloc (.cells #[.string ⟨#[]⟩, .string ⟨#[]⟩, .int .i64 0, .string ⟨#[]⟩] 31)).heap[w.heap.size + 1]? = some (.cells #[.string ⟨#[]⟩, .string ⟨#[]⟩, .int .i64 0, .string ⟨#[]⟩] 31 (0, 0))) := by
    have h := heap_alloc_new (w.alloc (.cells (whoA x) 25)) (.cells #[.string ⟨#[]⟩, .string ⟨#[]⟩, .int .i64 0, .string ⟨#[]⟩] 31)
    rw [show (w.alloc (.cells (whoA x) 25)).heap.size = w.heap.size + 1 by simp] at h
    exact h
  have hm1 : min (x.n.size : Int) 200 = ((min x.n.size 200 : Nat) : Int) := by omega
  have hs1 : ∀ W, (Instr.slice 9 (.string x.n) none (some (.int .i64 ((min x.n.size 200 : Nat) : Int))) none).run Tryz.prog W = .ok (.string (cutB 200 x.n)) W := fun W => slice_front x.n (min x.n.size 200) (by omega) _ rfl W
  have hm2 : min (x.m.size : Int) 200 = ((min x.m.size 200 : Nat) : Int) := by omega
  have hs2 : ∀ W, (Instr.slice 9 (.string x.m) none (some (.int .i64 ((min x.m.size 200 : Nat) : Int))) none).run Tryz.prog W = .ok (.string (cutB 200 x.m)) W := fun W => slice_front x.m (min x.m.size 200) (by omega) _ rfl W
  have hm3 : min (x.z.size : Int) 200 = ((min x.z.size 200 : Nat) : Int) := by omega
  have hs3 : ∀ W, (Instr.slice 9 (.string x.z) none (some (.int .i64 ((min x.z.size 200 : Nat) : Int))) none).run Tryz.prog W = .ok (.string (cutB 200 x.z)) W := fun W => slice_front x.z (min x.z.size 200) (by omega) _ rfl W
  have hbu := fun W => build_who (cutB 200 x.n) (cutB 200 x.m) (cutB 200 x.z) x.t W
  go_enter Tryz.func27, Tryz.ntmps27
  go_wp2_with fail
  obtain ⟨w0, hw0⟩ : ∃ W, (w.alloc (.cells (whoA x) 25)).alloc (.cells #[.string ⟨#[]⟩, .string ⟨#[]⟩, .int .i64 0, .string ⟨#[]⟩] 31) = W := ⟨_, rfl⟩
  rw [hw0] at HB HR0 HZ ⊢
  clear hw0
  obtain ⟨p0, hp0⟩ : ∃ p, w.heap.size = p := ⟨_, rfl⟩
  have HPE : Hid (w.heap.size = p0) := hp0
  rw [hp0] at HR0 HZ ⊢
  obtain ⟨rb, hrb⟩ : ∃ b, p0 + 1 = b := ⟨_, rfl⟩
  have HN : Hid (p0 ≠ rb ∧ w.heap.size ≤ rb) := by show _ ∧ _; omega
  rw [hrb] at HZ ⊢
  clear hp0 hrb
  have HPD : Hid (w0.drew.heap[p0]? = some (.cells (whoA x) 25 (0, 0))) := HR0.out
  have HZD : Hid (w0.drew.heap[rb]? = some (.cells #[.string ⟨#[]⟩, .string ⟨#[]⟩, .int .i64 0, .string ⟨#[]⟩] 31 (0, 0))) := HZ.out
  have HPS : Hid ((w0.drew.setRow rb (whoA (fewW x))).heap[p0]? = some (.cells (whoA x) 25 (0, 0))) := (setRow_other _ _ _ _ HN.out.1).trans HR0.out
  refine wp_region_noPanic ?_
  refine wp_region_held_drew (S := fun W => W.heap[p0]? = some (.cells (whoA x) 25 (0, 0))) (by kernel_rfl) ?_ (fun hHeld => ?_)
  · exact HPD.out
  refine tkV 0 (v := ?_) (hw := ?_) (h := ?_)
  rotate_left
  · intro W hSW
    go_simp
    try with_reducible rfl
  try simp only [Act.put, List.setIfInBounds_toArray, List.set_cons_zero, List.set_cons_succ]
  refine tkY 1 (hy := (yieldsIf_load_str (by rfl) 9 _ rfl p0 0 rfl x.n (fun W hSW => (who_cell hSW).1) Tryz.underlying9)) (h := ?_)
  try simp only [Act.put, List.setIfInBounds_toArray, List.set_cons_zero, List.set_cons_succ]
  refine tkV 2 (v := ?_) (hw := ?_) (h := ?_)
  rotate_left
  · intro W hSW
    go_simp
    try with_reducible rfl
  try simp only [Act.put, List.setIfInBounds_toArray, List.set_cons_zero, List.set_cons_succ]
  refine tkY 3 (hy := (yieldsIf_load_str (by rfl) 9 _ rfl p0 0 rfl x.n (fun W hSW => (who_cell hSW).1) Tryz.underlying9)) (h := ?_)
  try simp only [Act.put, List.setIfInBounds_toArray, List.set_cons_zero, List.set_cons_succ]
  refine tkV 4 (v := ?_) (hw := ?_) (h := ?_)
  rotate_left
  · intro W hSW
    go_simp
    try with_reducible rfl
  try simp only [Act.put, List.setIfInBounds_toArray, List.set_cons_zero, List.set_cons_succ]
  refine tkV 5 (v := ?_) (hw := ?_) (h := ?_)
  rotate_left
  · intro W hSW
    go_simp
    try with_reducible rfl
  try simp only [Act.put, List.setIfInBounds_toArray, List.set_cons_zero, List.set_cons_succ]
  refine tkV 6 (v := ?_) (hw := ?_) (h := ?_)
  rotate_left
  · intro W hSW
    go_simp
    try with_reducible rfl
  try simp only [Act.put, List.setIfInBounds_toArray, List.set_cons_zero, List.set_cons_succ]
  refine tkV 7 (v := ?_) (hw := ?_) (h := ?_)
  rotate_left
  · intro W hSW
    go_simp
    try with_reducible rfl
  try simp only [Act.put, List.setIfInBounds_toArray, List.set_cons_zero, List.set_cons_succ]
  refine tkY 8 (hy := (yieldsIf_load_str (by rfl) 9 _ rfl p0 1 rfl x.m (fun W hSW => (who_cell hSW).2.1) Tryz.underlying9)) (h := ?_)
  try simp only [Act.put, List.setIfInBounds_toArray, List.set_cons_zero, List.set_cons_succ]
  refine tkV 9 (v := ?_) (hw := ?_) (h := ?_)
  rotate_left
  · intro W hSW
    go_simp
    try with_reducible rfl
  try simp only [Act.put, List.setIfInBounds_toArray, List.set_cons_zero, List.set_cons_succ]
  refine tkY 10 (hy := (yieldsIf_load_str (by rfl) 9 _ rfl p0 1 rfl x.m (fun W hSW => (who_cell hSW).2.1) Tryz.underlying9)) (h := ?_)
  try simp only [Act.put, List.setIfInBounds_toArray, List.set_cons_zero, List.set_cons_succ]
  refine tkV 11 (v := ?_) (hw := ?_) (h := ?_)
  rotate_left
  · intro W hSW
    go_simp
    try with_reducible rfl
  try simp only [Act.put, List.setIfInBounds_toArray, List.set_cons_zero, List.set_cons_succ]
  refine tkV 12 (v := ?_) (hw := ?_) (h := ?_)
  rotate_left
  · intro W hSW
    go_simp
    try with_reducible rfl
  try simp only [Act.put, List.setIfInBounds_toArray, List.set_cons_zero, List.set_cons_succ]
  refine tkV 13 (v := ?_) (hw := ?_) (h := ?_)
  rotate_left
  · intro W hSW
    go_simp
    try with_reducible rfl
  try simp only [Act.put, List.setIfInBounds_toArray, List.set_cons_zero, List.set_cons_succ]
  refine tkV 14 (v := ?_) (hw := ?_) (h := ?_)
  rotate_left
  · intro W hSW
    go_simp
    try with_reducible rfl
  try simp only [Act.put, List.setIfInBounds_toArray, List.set_cons_zero, List.set_cons_succ]
  refine tkY 15 (hy := (yieldsIf_load_int (by rfl) 3 _ rfl p0 2 rfl x.t (fun W hSW => (who_cell hSW).2.2.1) Tryz.underlying3)) (h := ?_)
  try simp only [Act.put, List.setIfInBounds_toArray, List.set_cons_zero, List.set_cons_succ]
  refine tkV 16 (v := ?_) (hw := ?_) (h := ?_)
  rotate_left
  · intro W hSW
    go_simp
    try with_reducible rfl
  try simp only [Act.put, List.setIfInBounds_toArray, List.set_cons_zero, List.set_cons_succ]
  refine tkY 17 (hy := (yieldsIf_load_str (by rfl) 9 _ rfl p0 3 rfl x.z (fun W hSW => (who_cell hSW).2.2.2) Tryz.underlying9)) (h := ?_)
  try simp only [Act.put, List.setIfInBounds_toArray, List.set_cons_zero, List.set_cons_succ]
  refine tkV 18 (v := ?_) (hw := ?_) (h := ?_)
  rotate_left
  · intro W hSW
    go_simp
    try with_reducible rfl
  try simp only [Act.put, List.setIfInBounds_toArray, List.set_cons_zero, List.set_cons_succ]
  refine tkY 19 (hy := (yieldsIf_load_str (by rfl) 9 _ rfl p0 3 rfl x.z (fun W hSW => (who_cell hSW).2.2.2) Tryz.underlying9)) (h := ?_)
  try simp only [Act.put, List.setIfInBounds_toArray, List.set_cons_zero, List.set_cons_succ]
  refine tkV 20 (v := ?_) (hw := ?_) (h := ?_)
  rotate_left
  · intro W hSW
    go_simp
    try with_reducible rfl
  try simp only [Act.put, List.setIfInBounds_toArray, List.set_cons_zero, List.set_cons_succ]
  refine tkV 21 (v := ?_) (hw := ?_) (h := ?_)
  rotate_left
  · intro W hSW
    go_simp
    try with_reducible rfl
  try simp only [Act.put, List.setIfInBounds_toArray, List.set_cons_zero, List.set_cons_succ]
  refine tkV 22 (v := ?_) (hw := ?_) (h := ?_)
  rotate_left
  · intro W hSW
    go_simp
    try with_reducible rfl
  try simp only [Act.put, List.setIfInBounds_toArray, List.set_cons_zero, List.set_cons_succ]
  refine tkY 23 (hy := (yieldsIf_build (by rfl) _ _ rfl #[(0, .string (cutB 200 x.n)), (1, .string (cutB 200 x.m)), (2, .int .i64 x.t), (3, .string (cutB 200 x.z))] (map_four _ _ _ _ _ _ _ _ _ rfl rfl rfl rfl) (.agg (whoA (fewW x))) hbu)) (h := ?_)
  try simp only [Act.put, List.setIfInBounds_toArray, List.set_cons_zero, List.set_cons_succ]
  refine wpAnyH_ready (rs := [24]) (by kernel_rfl) (by simp) ?_
  refine AllReadyH.cons (by simp only [List.getElem?_toArray, List.getElem?_cons_succ, List.getElem?_cons_zero]; rfl) (fun K hK => ?_) AllReadyH.nil
  refine step_store_row (by rfl) 31 _ _ rfl rb (whoA (fewW x)) rfl rfl 31 #[.string ⟨#[]⟩, .string ⟨#[]⟩, .int .i64 0, .string ⟨#[]⟩] HZD.out (info_who _) rfl (who_one _) ?_
  refine hK.out _ _ (HPS.out) (fun hHeld2 => ?_)
  clear hK K hHeld
  have hHeld := hHeld2
  clear hHeld2
  try simp only [Act.put, List.setIfInBounds_toArray, List.set_cons_zero, List.set_cons_succ]
  refine wpAnyH_done (by kernel_rfl) ?_ _
  refine NoPanic.normal ?_
  clear hHeld
  go_wp2_with fail
  refine bodyPost_ret (results_cell_row Tryz.results27 _ _ rb 31 (whoA (fewW x)) (0, 0) _ rfl (setRow_heap _ _ _ _ _ _ HZD.out) Tryz.underlying31 rfl (info_who _)) rfl ⟨rfl, below_setRow HB.out.drew HN.out.2 _⟩
end Go.Proofs.YtkpiinjhcckhfaaGreatDoor
/-! The law CommitPersons. -/
namespace Go.Proofs.YtkpiinjhcckhfaaGreatDoor
open Go.RowKit Plain Go.ChangeShapes Go.WideShapes Go.ChangeAt
set_option linter.unusedVariables false
set_option linter.unusedSimpArgs false
theorem info_rwhoL (x : WX) : (Tryz.prog.info? 25).map (·.size) = some (whoL x).length := by show _ = some 4; kernel_rfl
end Go.Proofs.YtkpiinjhcckhfaaGreatDoor
