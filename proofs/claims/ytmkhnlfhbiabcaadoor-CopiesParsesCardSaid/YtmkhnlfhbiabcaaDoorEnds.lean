/- The law's from and of: the walks. -/
import Derived.Test.YtmkhnlfhbiabcaaDoorRefPrint
namespace Go.Proofs.YtmkhnlfhbiabcaaDoor
open Go.RowKit Plain Go.ChangeShapes Go.WideShapes Go.ChangeAt
set_option linter.unusedVariables false
set_option linter.unusedSimpArgs false
theorem wpList_build_2 {P : Program} {w : World} {ops : Array Oper} {rest : List Oper} {o : Oper} {a : Act} {Q : Exit → Act → World → Prop} (hw : Region.wanted o (yielded ops a.tmps) = true) (ty : TypeId) (x y : Operand) (ho : o.op = .build ty #[(0, x), (1, y)])
    (u1 u2 : Value) (h1 : a.eval x = u1) (h2 : a.eval y = u2) (v : Value) (hr : ∀ W, (Instr.build ty #[(0, u1), (1, u2)]).run P W = .ok v W) (h : wpList P ops Q rest (a.put o.dst v) w) : wpList P ops Q (o :: rest) a w :=
  wpList_build hw ty _ ho #[(0, u1), (1, u2)] (by simp [h1, h2]) v hr h
theorem yieldsIf_build2 {P : Program} {ops : Array Oper} {S : World → Prop} {op : Oper} {a : Act} (hw : Region.wanted op (yielded ops a.tmps) = true) (ty : TypeId) (x y : Operand) (ho : op.op = .build ty #[(0, x), (1, y)])
    (u1 u2 : Value) (h1 : a.eval x = u1) (h2 : a.eval y = u2) (v : Value) (hr : ∀ W, (Instr.build ty #[(0, u1), (1, u2)]).run P W = .ok v W) : YieldsIf P ops S op v a := by
  refine .inl ⟨hw, fun W hS => ?_⟩
  unfold execOp
  simp [ho, h1, h2, hr, Result.andThen_ok]
theorem step_store_row {P : Program} {w : World} {ops : Array Oper} {o : Oper} {a : Act} {K : Act → World → Prop} {Q : Exit → Act → World → Prop} {E : Prop} (hw : Region.wanted o (yielded ops a.tmps) = true) (ty : TypeId) (x y : Operand) (ho : o.op = .store ty x y)
    (g : Nat) (cells : Array Value) (hx : a.eval x = .pointer (some ⟨g, 0, none⟩)) (hy : a.eval y = .agg cells)
    (t : TypeId) (old : Array Value) (hg : w.heap[g]? = some (.cells old t (0, 0))) (hi : (P.info? ty).map (·.size) = some cells.size)
    (hold : old.size = cells.size) (h1 : cells.all (·.oneCell') = true) (h : K (a.put o.dst undef) (w.setRow g cells)) :
    if Region.wanted o (yielded ops a.tmps) = true then Oper.wp P o a w K Q else E := by
  rw [if_pos hw]
  exact wp_store_row ty x y ho g cells hx hy t old hg hi hold h1 h
theorem two_from (w : World) (p q : ByteArray) (id jd : List Int) (t u : TypeId) : let W := (w.alloc (.cells (fromA p id) t)).alloc (.cells (fromA q jd) u)
    W.heap[w.heap.size]? = some (.cells (fromA p id) t (0, 0)) ∧ W.heap[w.heap.size + 1]? = some (.cells (fromA q jd) u (0, 0)) ∧ Below w.heap.size w W ∧ W.heap.size = w.heap.size + 2 := by
  obtain ⟨h0, h1, h2, h3⟩ := two_blocks w (.cells (fromA p id) t) (.cells (fromA q jd) u)
  exact ⟨h0, h1, h2, by simp⟩
set_option maxRecDepth 100000 in
set_option maxHeartbeats 4000000 in
theorem of_any (p : ByteArray) (id : List Int) (w : World) (h20 : id.length = 20) :
    Calls Tryd.prog 11 #[.agg (fromA p id)] w fun e w' => e = .returned (.agg (fromA p id)) ∧ Below w.heap.size w w' := by
  obtain ⟨h0, h1, h2, h3⟩ := two_from w p ⟨#[]⟩ id zeros20 28 25
  have H0 := Lib.hid h0
  have H1 := Lib.hid h1
  have H2 := Lib.hid h2
  clear h0 h1 h2 h3
  have hzz := zero_rfrom
  have hz : (fromA p id)[0]? = some (.string p) := by simp [fromA]
  have H20 := Lib.hid h20
  have HI := Lib.hid (rfrom_info p id h20)
  have HIS : Hid ((fromA ⟨#[]⟩ zeros20).size = (fromA p id).size) := by show _ = _; rw [fromA_size, fromA_size, h20]; rfl
  have HIL : Hid ((Tryd.prog.info? 26).map (·.size) = some (id.map (Value.int .u8)).length) := by
    show _ = _
    rw [List.length_map, h20]; kernel_rfl
  clear h20
  go_enter Tryd.func11, Tryd.ntmps11
  go_wp2_with (first
    | refine wpList_load_mid_g rfl 26 _ rfl w.heap.size 1 rfl (id.map (Value.int .u8)) (.array 20 5) (from_range H0.out) Tryd.underlying26 rfl HIL.out ?_
    | refine wpList_build_2 rfl 25 _ _ rfl (.string p) (.agg (V8 id)) rfl rfl (.agg (fromA p id)) (build_rfrom p id H20.out) ?_
    | refine wpList_store_row rfl 25 _ _ rfl (w.heap.size + 1) (fromA p id) rfl rfl 25 (fromA ⟨#[]⟩ zeros20) H1.out HI.out HIS.out (fromA_one _ _) ?_)
  refine bodyPost_ret (results_cell_row Tryd.results11 _ _ (w.heap.size + 1) 25 (fromA p id) (0, 0) _ rfl (setRow_heap _ _ _ _ _ _ H1.out) Tryd.underlying25 rfl HI.out) rfl ⟨rfl, ?_⟩
  exact below_setRow H2.out (by omega) _
/-- The text that the law takes of a path. -/
def cutS (p : ByteArray) : ByteArray := p.extract 0 (min p.size 300)
theorem cutS_size (p : ByteArray) : (cutS p).size ≤ 300 := by
  unfold cutS
  simp
  omega
theorem slice_cut (p : ByteArray) (x : Int) (hx : x = ((min p.size 300 : Nat) : Int)) (W : World) : (Instr.slice 9 (.string p) none (some (.int .i64 x)) none).run Tryd.prog W = .ok (.string (cutS p)) W := by
  subst hx
  have ht := Tryd.underlying9
  have hm : min p.size 300 ≤ p.size := by omega
  generalize hk : min p.size 300 = k at *
  simp [Instr.slice, run_underlying ht, Instr.sliceBounds, run_sliceBound, hm, cutS, hk]
set_option maxRecDepth 100000 in
set_option maxHeartbeats 8000000 in
theorem from_any (p : ByteArray) (id : List Int) (w : World) (h20 : id.length = 20) (hps : p.size ≤ 9223372036854775807) :
    Calls Tryd.prog 8 #[.agg (fromA p id)] w fun e w' => e = .returned (.agg (fromA (cutS p) id)) ∧ Below w.heap.size w w' := by
  obtain ⟨h0, h1, h2, h3⟩ := two_from w p ⟨#[]⟩ id zeros20 25 28
  have H0 := Lib.hid h0
  have H1 := Lib.hid h1
  have H2 := Lib.hid h2
  have H3 := Lib.hid h3
  clear h0 h1 h2 h3
  have hzz := zero_from
  have hmin : min (p.size : Int) 300 = ((min p.size 300 : Nat) : Int) := by omega
  have hsl := fun W => slice_cut p _ rfl W
  have H20 := Lib.hid h20
  have HI2 := Lib.hid (from_info (cutS p) id h20)
  have HIS : Hid ((fromA ⟨#[]⟩ zeros20).size = (fromA (cutS p) id).size) := by show _ = _; rw [fromA_size, fromA_size, h20]; rfl
  have HIL : Hid ((Tryd.prog.info? 23).map (·.size) = some (id.map (Value.int .u8)).length) := by
    show _ = _
    rw [List.length_map, h20]; kernel_rfl
  clear h20
  go_enter Tryd.func8, Tryd.ntmps8
  go_wp2_with fail
  clear hzz
  generalize (w.alloc (.cells (fromA p id) 25)).alloc (.cells (fromA ⟨#[]⟩ zeros20) 28) = w0 at *
  have HCELL : Hid (∀ W, Below (w.heap.size + 1) w0 W → W.cell? ⟨w.heap.size, 0, none⟩ = some (.string p)) := fun W hW => from_cell ((hW.block w.heap.size (by omega)).trans H0.out)
  have HRNG : Hid (∀ W, Below (w.heap.size + 1) w0 W → W.rangeAt w.heap.size 1 (id.map (Value.int .u8))) := fun W hW => from_range ((hW.block w.heap.size (by omega)).trans H0.out)
  obtain ⟨q, hq⟩ : ∃ q, cutS p = q := ⟨_, rfl⟩
  have HQE := Lib.hid hq
  simp only [hq] at hsl HI2 HIS
  clear hq
  refine wp_region_noPanic ?_
  refine wp_region_held_drew (S := fun W => Below (w.heap.size + 1) w0 W) (by kernel_rfl) ?_ (fun hHeld => ?_)
  · exact (Below.refl _ _).drew
  refine wpAnyH_take (i := 0) (v := ?_) (by simp only [List.getElem?_toArray, List.getElem?_cons_zero]; rfl) (by kernel_rfl) (by kernel_rfl) (by kernel_rfl) (fun _ _ _ h => h) (Or.inl ⟨by rfl, ?_⟩) (by assumption) ?_
  rotate_left
  · intro W hSW
    go_simp
    try with_reducible rfl
  try simp only [Act.put, List.setIfInBounds_toArray, List.set_cons_zero, List.set_cons_succ]
  refine wpAnyH_take (i := 1) (v := .string p) (by simp only [List.getElem?_toArray, List.getElem?_cons_succ, List.getElem?_cons_zero]; rfl) (by kernel_rfl) (by kernel_rfl) (by kernel_rfl) (fun _ _ _ h => h) (Or.inl ⟨by rfl, ?_⟩) (by assumption) ?_
  · intro W hSW
    have hcW := HCELL.out W hSW
    go_simp
    try with_reducible rfl
  try simp only [Act.put, List.setIfInBounds_toArray, List.set_cons_zero, List.set_cons_succ]
  refine wpAnyH_take (i := 2) (v := ?_) (by simp only [List.getElem?_toArray, List.getElem?_cons_succ, List.getElem?_cons_zero]; rfl) (by kernel_rfl) (by kernel_rfl) (by kernel_rfl) (fun _ _ _ h => h) (Or.inl ⟨by rfl, ?_⟩) (by assumption) ?_
  rotate_left
  · intro W hSW
    go_simp
    try with_reducible rfl
  try simp only [Act.put, List.setIfInBounds_toArray, List.set_cons_zero, List.set_cons_succ]
  refine wpAnyH_take (i := 3) (v := .string p) (by simp only [List.getElem?_toArray, List.getElem?_cons_succ, List.getElem?_cons_zero]; rfl) (by kernel_rfl) (by kernel_rfl) (by kernel_rfl) (fun _ _ _ h => h) (Or.inl ⟨by rfl, ?_⟩) (by assumption) ?_
  · intro W hSW
    have hcW := HCELL.out W hSW
    go_simp
    try with_reducible rfl
  try simp only [Act.put, List.setIfInBounds_toArray, List.set_cons_zero, List.set_cons_succ]
  refine wpAnyH_take (i := 4) (v := ?_) (by simp only [List.getElem?_toArray, List.getElem?_cons_succ, List.getElem?_cons_zero]; rfl) (by kernel_rfl) (by kernel_rfl) (by kernel_rfl) (fun _ _ _ h => h) (Or.inl ⟨by rfl, ?_⟩) (by assumption) ?_
  rotate_left
  · intro W hSW
    go_simp
    try with_reducible rfl
  try simp only [Act.put, List.setIfInBounds_toArray, List.set_cons_zero, List.set_cons_succ]
  refine wpAnyH_take (i := 5) (v := ?_) (by simp only [List.getElem?_toArray, List.getElem?_cons_succ, List.getElem?_cons_zero]; rfl) (by kernel_rfl) (by kernel_rfl) (by kernel_rfl) (fun _ _ _ h => h) (Or.inl ⟨by rfl, ?_⟩) (by assumption) ?_
  rotate_left
  · intro W hSW
    go_simp
    try with_reducible rfl
  try simp only [Act.put, List.setIfInBounds_toArray, List.set_cons_zero, List.set_cons_succ]
  refine wpAnyH_take (i := 6) (v := ?_) (by simp only [List.getElem?_toArray, List.getElem?_cons_succ, List.getElem?_cons_zero]; rfl) (by kernel_rfl) (by kernel_rfl) (by kernel_rfl) (fun _ _ _ h => h) (Or.inl ⟨by rfl, ?_⟩) (by assumption) ?_
  rotate_left
  · intro W hSW
    go_simp
    try with_reducible rfl
  try simp only [Act.put, List.setIfInBounds_toArray, List.set_cons_zero, List.set_cons_succ]
  refine wpAnyH_take (i := 7) (v := ?_) (by simp only [List.getElem?_toArray, List.getElem?_cons_succ, List.getElem?_cons_zero]; rfl) (by kernel_rfl) (by kernel_rfl) (by kernel_rfl) (fun _ _ _ h => h) (Or.inl ⟨by rfl, ?_⟩) (by assumption) ?_
  rotate_left
  · intro W hSW
    go_simp
    try with_reducible rfl
  try simp only [Act.put, List.setIfInBounds_toArray, List.set_cons_zero, List.set_cons_succ]
  refine wpAnyH_take (i := 8) (by simp only [List.getElem?_toArray, List.getElem?_cons_succ, List.getElem?_cons_zero]; rfl) (by kernel_rfl) (by kernel_rfl) (by kernel_rfl) (fun _ _ _ h => h) (yieldsIf_load_mid (by rfl) 23 _ rfl w.heap.size 1 rfl (id.map (Value.int .u8)) (.array 20 5) (fun W hSW => HRNG.out W hSW) Tryd.underlying23 rfl HIL.out) (by assumption) ?_
  try simp only [Act.put, List.setIfInBounds_toArray, List.set_cons_zero, List.set_cons_succ]
  refine wpAnyH_take (i := 9) (by simp only [List.getElem?_toArray, List.getElem?_cons_succ, List.getElem?_cons_zero]; rfl) (by kernel_rfl) (by kernel_rfl) (by kernel_rfl) (fun _ _ _ h => h) (yieldsIf_build2 (by rfl) 28 _ _ rfl (.string q) (.agg (V8 id)) (by rfl) (by rfl) (.agg (fromA q id)) (build_from q id H20.out)) (by assumption) ?_
  try simp only [Act.put, List.setIfInBounds_toArray, List.set_cons_zero, List.set_cons_succ]
  refine wpAnyH_ready (rs := [10]) (by kernel_rfl) (by simp) ?_
  refine AllReadyH.cons (by simp only [List.getElem?_toArray, List.getElem?_cons_succ, List.getElem?_cons_zero]; rfl) (fun K hK => ?_) AllReadyH.nil
  refine step_store_row (by rfl) 28 _ _ (by rfl) (w.heap.size + 1) (fromA q id) (by rfl) (by rfl) 28 (fromA ⟨#[]⟩ zeros20) (((Below.refl (w.heap.size + 2) w0).drew.block (w.heap.size + 1) (by omega)).trans H1.out) HI2.out HIS.out (fromA_one _ _) ?_
  refine hK.out _ _ (below_setRow (Below.refl _ _).drew (Nat.le_refl _) _) (fun hHeld2 => ?_)
  clear hK K hHeld
  have hHeld := hHeld2
  clear hHeld2
  try simp only [Act.put, List.setIfInBounds_toArray, List.set_cons_zero, List.set_cons_succ]
  refine wpAnyH_done (by kernel_rfl) ?_ _
  refine NoPanic.normal ?_
  go_wp2_with fail
  refine bodyPost_ret (results_cell_row Tryd.results8 _ _ (w.heap.size + 1) 28 (fromA q id) (0, 0) _ rfl (setRow_heap _ _ _ _ _ _ (((Below.refl (w.heap.size + 2) w0).drew.block (w.heap.size + 1) (by omega)).trans H1.out)) Tryd.underlying28 rfl HI2.out) rfl ⟨by rw [HQE.out], ?_⟩
  exact below_setRow H2.out.drew (by omega) _
end Go.Proofs.YtmkhnlfhbiabcaaDoor
