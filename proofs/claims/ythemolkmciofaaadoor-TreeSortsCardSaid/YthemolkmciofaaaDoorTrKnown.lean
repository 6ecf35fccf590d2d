/- The chapter's example of entries: the walk. -/
import Derived.Test.YthemolkmciofaaaDoorTzPut
namespace Go.Proofs.YthemolkmciofaaaDoor
open Go.RowKit Plain
set_option linter.unusedVariables false
set_option linter.unusedSimpArgs false
theorem fill_two (x y : TE) (zs : Array Value) (hz : zs.size = 44) (hx : x.n.length = 20) (hy : y.n.length = 20) : Instr.fill (fun i => some (i * 22, 22)) zs [(0, .agg (entA x)), (1, .agg (entA y))] = some (flatE [x, y]).toArray := by
  have := Go.Great.fill_whole (s := 22) (by omega) [.agg (entA x), .agg (entA y)] zs (fun v hv => by
    simp only [List.mem_cons, List.not_mem_nil, or_false] at hv
    rcases hv with rfl | rfl
    · exact entA_size x hx
    · exact entA_size y hy) (by rw [hz]; rfl)
  have e : (flatE [x, y]).toArray = entA x ++ entA y := by unfold entA; simp [flatE]
  rw [e]
  have e2 : entA x ++ entA y = ((entA x).toList ++ (entA y).toList).toArray := by simp
  rw [e2]
  simpa [Value.cells] using this
theorem slice_two (x y : TE) (hx : x.n.length = 20) (hy : y.n.length = 20) (W : World) : (Instr.buildSlice 23 2 #[(0, .agg (entA x)), (1, .agg (entA y))]).run Tryd.prog W = .ok (.slice (some ⟨W.heap.size, 0, none⟩) 2 2) (W.alloc (.cells (flatE [x, y]).toArray 30)) := by
  obtain ⟨i, hi, hz, h1, -⟩ := parts_ent
  refine run_buildSlice W _ _ _ _ _ i _ Tryd.underlying23 hi hz (by rw [h1]; decide) (by rw [h1]; decide) ?_
  rw [h1]
  exact fill_two x y _ (by simp) hx hy
theorem ents_box (w : World) (xs : List TE) (t : TypeId) (h : ∀ x ∈ xs, x.n.length = 20) : EsAt (w.alloc (.cells (flatE xs).toArray t)) (some ⟨w.heap.size, 0, none⟩) xs := by
  refine ⟨h, .inr ⟨w.heap.size, 0, rfl, by simp, fun j x hj i v hv => ?_⟩⟩
  have hi : i < 22 := by
    have := (List.getElem?_eq_some_iff.1 hv).1
    rw [entL_len x (h x (List.mem_of_getElem? hj))] at this; exact this
  rw [cell_of_row _ _ _ _ _ _ (heap_alloc_new w _), Nat.zero_add, List.getElem?_toArray, flatE_get xs j i x h hj hi, hv]
theorem map_two (a : Act) (x y : Operand) (u v : Value) (h1 : a.eval x = u) (h2 : a.eval y = v) : (#[(0, x), (1, y)] : Array (Nat × Operand)).map (fun (i, x) => (i, a.eval x)) = #[(0, u), (1, v)] := by simp [h1, h2]
theorem wpList_slice {P : Program} {w : World} {ops : Array Oper} {rest : List Oper} {o : Oper} {a : Act} {Q : Exit → Act → World → Prop} (hw : Region.wanted o (yielded ops a.tmps) = true) (ty : TypeId) (len : Nat) (ps : Array (Nat × Operand)) (ho : o.op = .buildSlice ty len ps)
    (qs : Array (Nat × Value)) (hq : (ps.map fun (i, x) => (i, a.eval x)) = qs) (v : Value) (w' : World) (hr : (Instr.buildSlice ty len qs).run P w = .ok v w') (h : wpList P ops Q rest (a.put o.dst v) w') : wpList P ops Q (o :: rest) a w := by
  refine wpList_step ?_
  intro K hK
  rw [if_pos hw]
  unfold Oper.wp execOp
  simp only [ho, Sem.run_bind, hq, hr, Result.andThen_ok]
  exact hK _ _ h
theorem wpList_load_e {P : Program} {ops : Array Oper} {rest : List Oper} {op : Oper} {a : Act} {w : World} {Q : Exit → Act → World → Prop} (hw : Region.wanted op (yielded ops a.tmps) = true) (ty : TypeId) (x : Operand) (ho : op.op = .load ty x)
    (b o : Nat) (hx : a.eval x = .pointer (some ⟨b, o, none⟩)) (y : TE) (d : TypeDesc) (hc : w.rangeAt b o (entL y))
    (hu : P.underlying ty = some d) (hd : d.isRow = true) (hi : (P.info? ty).map (·.size) = some (entL y).length)
    (h : wpList P ops Q rest (a.put op.dst (.agg (entA y))) w) : wpList P ops Q (op :: rest) a w := by
  refine wpList_step ?_
  intro K hK
  rw [if_pos hw]
  exact wp_load_mid ty x ho b o hx (entL y) d hc hu hd hi (hK _ _ h)
def ke1 : TE := ⟨33188, ⟨#[97, 46, 99]⟩, zeros20⟩
def ke2 : TE := ⟨16384, ⟨#[97]⟩, zeros20⟩
def ke3 : TE := ⟨33188, ⟨#[97]⟩, zeros20⟩
theorem good_zero (k : Int) (p : ByteArray) : GoodE ⟨k, p, zeros20⟩ := ⟨zeros20_len, fun z hz => by
  have h : zeros20.all (fun z => decide (0 ≤ z ∧ z ≤ 255)) = true := by decide +kernel
  simpa using List.all_eq_true.1 h z hz⟩
theorem kgood12 : ∀ x ∈ [ke1, ke2], GoodE x := fun x hx => by
  simp only [List.mem_cons, List.not_mem_nil, or_false] at hx
  rcases hx with rfl | rfl <;> exact good_zero _ _
theorem ksmall12 : ∀ x ∈ [ke1, ke2], x.p.size ≤ 100000 := fun x hx => by
  simp only [List.mem_cons, List.not_mem_nil, or_false] at hx
  rcases hx with rfl | rfl <;> decide
theorem ksmall21 : ∀ x ∈ [ke2, ke1], x.p.size ≤ 100000 := fun x hx => by
  simp only [List.mem_cons, List.not_mem_nil, or_false] at hx
  rcases hx with rfl | rfl <;> decide
theorem ksmall31 : ∀ x ∈ [ke3, ke1], x.p.size ≤ 100000 := fun x hx => by
  simp only [List.mem_cons, List.not_mem_nil, or_false] at hx
  rcases hx with rfl | rfl <;> decide
theorem kright12 : rightT [ke1, ke2] = true := by decide +kernel
theorem kright21 : rightT [ke2, ke1] = false := by decide +kernel
theorem kright31 : rightT [ke3, ke1] = true := by decide +kernel
theorem klen : (textT [ke1, ke2]).length = 59 := by decide +kernel
set_option maxRecDepth 100000 in
set_option maxHeartbeats 16000000 in
theorem known_any (w : World) (hE : Env w) : Calls Tryd.prog 7 #[] w fun e w' => e = .returned (.bool true) ∧ Below w.heap.size w w' := by
  have HE := Lib.hid hE
  clear hE
  obtain ⟨x1, hx1⟩ : ∃ x, ke1 = x := ⟨_, rfl⟩
  obtain ⟨x2, hx2⟩ : ∃ x, ke2 = x := ⟨_, rfl⟩
  obtain ⟨x3, hx3⟩ : ∃ x, ke3 = x := ⟨_, rfl⟩
  have hze := zero_ent
  have hv1 : ((entA noEnt).setIfInBounds 0 (.int .i64 33188)).setIfInBounds 1 (.string ⟨#[97, 46, 99]⟩) = entA x1 := by
    rw [← hx1]
    show ((entA ⟨0, ⟨#[]⟩, zeros20⟩).setIfInBounds 0 _).setIfInBounds 1 _ = _
    rw [entA_set0, entA_set1]; rfl
  have hv2 : ((entA noEnt).setIfInBounds 0 (.int .i64 16384)).setIfInBounds 1 (.string ⟨#[97]⟩) = entA x2 := by
    rw [← hx2]
    show ((entA ⟨0, ⟨#[]⟩, zeros20⟩).setIfInBounds 0 _).setIfInBounds 1 _ = _
    rw [entA_set0, entA_set1]; rfl
  have hv3 : ((entA noEnt).setIfInBounds 0 (.int .i64 33188)).setIfInBounds 1 (.string ⟨#[97]⟩) = entA x3 := by
    rw [← hx3]
    show ((entA ⟨0, ⟨#[]⟩, zeros20⟩).setIfInBounds 0 _).setIfInBounds 1 _ = _
    rw [entA_set0, entA_set1]; rfl
  have HG12 := Lib.hid kgood12
  have HS12 := Lib.hid ksmall12
  have HS21 := Lib.hid ksmall21
  have HS31 := Lib.hid ksmall31
  have HR12 := Lib.hid kright12
  have HR21 := Lib.hid kright21
  have HR31 := Lib.hid kright31
  have HL := Lib.hid klen
  have H3 : Hid (x3.n.length = 20) := by show _ = _; rw [← hx3]; exact zeros20_len
  rw [hx1] at HG12 HS12 HS21 HS31 HR12 HR21 HR31 HL
  rw [hx2] at HG12 HS12 HS21 HR12 HR21 HL
  rw [hx3] at HS31 HR31
  clear hx1 hx2 hx3
  have H1 := Lib.hid (HG12.out x1 (by simp)).1
  have H2 := Lib.hid (HG12.out x2 (by simp)).1
  have HI1 := Lib.hid (ent_info x1 H1.out)
  have HI2 := Lib.hid (ent_info x2 H2.out)
  have HI3 := Lib.hid (ent_info x3 H3.out)
  have HZ : Hid (∀ x : TE, x.n.length = 20 → (entA noEnt).size = (entA x).size) := fun x hx => by rw [entA_size _ hx, entA_size _ zeros20_len]
  have HIL1 := Lib.hid (ent_infoL x1 H1.out)
  have HIL2 := Lib.hid (ent_infoL x2 H2.out)
  have HIL3 := Lib.hid (ent_infoL x3 H3.out)
  obtain ⟨wa, hwa⟩ : ∃ W, (w.alloc (.cells (entA noEnt) 30)).alloc (.cells (entA noEnt) 30) = W := ⟨_, rfl⟩
  have hs1 : (w.alloc (.cells (entA noEnt) 30)).heap.size = w.heap.size + 1 := by simp
  have hs2 : wa.heap.size = w.heap.size + 1 + 1 := by rw [← hwa]; simp
  have hA1 : wa.heap[w.heap.size]? = some (.cells (entA noEnt) 30 (0, 0)) := by
    rw [← hwa]; exact (Below.heap_alloc _ _ _ (by rw [hs1]; omega)).trans (heap_alloc_new _ _)
  have hA2 : wa.heap[w.heap.size + 1]? = some (.cells (entA noEnt) 30 (0, 0)) := by
    have := heap_alloc_new (w.alloc (.cells (entA noEnt) 30)) (.cells (entA noEnt) 30)
    rw [hs1, hwa] at this
    exact this
  have hBa : Below w.heap.size w wa := by rw [← hwa]; exact ((Below.refl _ _).alloc (Nat.le_refl _) _).alloc (by simp) _
  have HA1 := Lib.hid hA1
  obtain ⟨wb, hwb⟩ : ∃ W, wa.setRow w.heap.size (entA x1) = W := ⟨_, rfl⟩
  have hb1 : wb.heap[w.heap.size]? = some (.cells (entA x1) 30 (0, 0)) := by rw [← hwb]; exact setRow_heap _ _ _ (entA x1) _ _ hA1
  have hb2 : wb.heap[w.heap.size + 1]? = some (.cells (entA noEnt) 30 (0, 0)) := by rw [← hwb]; exact (setRow_other _ _ _ _ (by omega)).trans hA2
  have HB2r := Lib.hid hb2
  obtain ⟨wc, hwc⟩ : ∃ W, wb.setRow (w.heap.size + 1) (entA x2) = W := ⟨_, rfl⟩
  have hc1 : wc.heap[w.heap.size]? = some (.cells (entA x1) 30 (0, 0)) := by rw [← hwc]; exact (setRow_other _ _ _ _ (by omega)).trans hb1
  have hc2 : wc.heap[w.heap.size + 1]? = some (.cells (entA x2) 30 (0, 0)) := by rw [← hwc]; exact setRow_heap _ _ _ (entA x2) _ _ hb2
  have hBc : Below w.heap.size w wc := by rw [← hwc, ← hwb]; exact below_setRow (below_setRow hBa (Nat.le_refl _) _) (Nat.le_succ _) _
  have HD3 : Hid ((wc.alloc (.cells (entA noEnt) 30)).heap[wc.heap.size]? = some (.cells (entA noEnt) 30 (0, 0))) := heap_alloc_new _ _
  have hbd : Below wc.heap.size wc ((wc.alloc (.cells (entA noEnt) 30)).setRow wc.heap.size (entA x3)) := below_setRow ((Below.refl _ _).alloc (Nat.le_refl _) _) (Nat.le_refl _) _
  have hd3 := setRow_heap _ _ _ (entA x3) _ _ HD3.out
  obtain ⟨wd, hwd⟩ : ∃ W, (wc.alloc (.cells (entA noEnt) 30)).setRow wc.heap.size (entA x3) = W := ⟨_, rfl⟩
  rw [hwd] at hbd hd3
  have HD1 := Lib.hid ((hbd.block _ (Array.getElem?_eq_some_iff.1 hc1).1).trans hc1)
  have HD2 := Lib.hid ((hbd.block _ (Array.getElem?_eq_some_iff.1 hc2).1).trans hc2)
  have HD3x := Lib.hid hd3
  have HBD := Lib.hid (hBc.trans (hbd.mono hBc.size))
  have HWA := Lib.hid hwa
  have HWB := Lib.hid hwb
  have HWC := Lib.hid hwc
  have HWD := Lib.hid hwd
  have HSL : Hid (∀ (x y : TE), x.n.length = 20 → y.n.length = 20 → ∀ W, (Instr.buildSlice 23 2 #[(0, .agg (entA x)), (1, .agg (entA y))]).run Tryd.prog W = .ok (.slice (some ⟨W.heap.size, 0, none⟩) 2 2) (W.alloc (.cells (flatE [x, y]).toArray 30))) := fun x y hx hy W => slice_two x y hx hy W
  clear hs1 hs2 hA1 hA2 hBa hwb hb1 hb2 hwc hc1 hc2 hBc hbd hd3 hwd
  go_enter Tryd.func7, Tryd.ntmps7
  go_wp2_with (first
    | (refine wpList_store_row rfl 30 _ _ rfl w.heap.size (entA x1) rfl rfl 30 (entA noEnt) HA1.out HI1.out (HZ.out x1 H1.out) (entA_one _) ?_; rw [HWB.out])
    | (refine wpList_store_row rfl 30 _ _ rfl (w.heap.size + 1) (entA x2) rfl rfl 30 (entA noEnt) HB2r.out HI2.out (HZ.out x2 H2.out) (entA_one _) ?_; rw [HWC.out])
    | (refine wpList_store_row rfl 30 _ _ rfl wc.heap.size (entA x3) rfl rfl 30 (entA noEnt) HD3.out HI3.out (HZ.out x3 H3.out) (entA_one _) ?_; rw [HWD.out])
    | refine wpList_load_e rfl 30 _ rfl w.heap.size 0 rfl x1 _ (row_ent HD1.out) Tryd.underlying30 rfl HIL1.out ?_
    | refine wpList_load_e rfl 30 _ rfl (w.heap.size + 1) 0 rfl x2 _ (row_ent HD2.out) Tryd.underlying30 rfl HIL2.out ?_
    | refine wpList_slice rfl 23 2 #[(0, _), (1, _)] rfl #[(0, .agg (entA x1)), (1, .agg (entA x2))] (map_two _ _ _ _ _ rfl rfl) _ _ (HSL.out x1 x2 H1.out H2.out wd) ?_)
  clear hv1 hv2 hv3 hze
  have hba : Below wd.heap.size wd (wd.alloc (.cells (flatE [x1, x2]).toArray 30)) := (Below.refl _ _).alloc (Nat.le_refl _) _
  have HBA := Lib.hid (HBD.out.trans (hba.mono HBD.out.size))
  have HAT := Lib.hid (ents_box wd [x1, x2] 30 (fun x hx => by
    simp only [List.mem_cons, List.not_mem_nil, or_false] at hx
    rcases hx with rfl | rfl
    · exact H1.out
    · exact H2.out))
  refine (tprint_any (some ⟨wd.heap.size, 0, none⟩) 2 [x1, x2] (wd.alloc (.cells (flatE [x1, x2]).toArray 30)) HAT.out (by simp) HG12.out HS12.out (HE.out.below HBA.out)).mono ?_
  rintro e w5 ⟨hpo, hb⟩
  obtain ⟨xa, xc, rfl, -⟩ := hpo.yes HR12.out
  rw [HL.out]
  have hbz := hba.trans (hb.mono hba.size)
  have HB5 := Lib.hid (HBA.out.trans (hb.mono HBA.out.size))
  have HE51 := Lib.hid ((hbz.block _ (Array.getElem?_eq_some_iff.1 HD1.out).1).trans HD1.out)
  have HE52 := Lib.hid ((hbz.block _ (Array.getElem?_eq_some_iff.1 HD2.out).1).trans HD2.out)
  have HE53 := Lib.hid ((hbz.block _ (Array.getElem?_eq_some_iff.1 HD3x.out).1).trans HD3x.out)
  clear hba hbz hb HBA HAT
  go_wp2_with (first
    | refine wpList_load_e rfl 30 _ rfl w.heap.size 0 rfl x1 _ (row_ent HE51.out) Tryd.underlying30 rfl HIL1.out ?_
    | refine wpList_load_e rfl 30 _ rfl (w.heap.size + 1) 0 rfl x2 _ (row_ent HE52.out) Tryd.underlying30 rfl HIL2.out ?_
    | refine wpList_load_e rfl 30 _ rfl wc.heap.size 0 rfl x3 _ (row_ent HE53.out) Tryd.underlying30 rfl HIL3.out ?_
    | refine wpList_slice rfl 23 2 #[(0, _), (1, _)] rfl #[(0, .agg (entA x1)), (1, .agg (entA x2))] (map_two _ _ _ _ _ rfl rfl) _ _ (HSL.out x1 x2 H1.out H2.out w5) ?_)
  have hba : Below w5.heap.size w5 (w5.alloc (.cells (flatE [x1, x2]).toArray 30)) := (Below.refl _ _).alloc (Nat.le_refl _) _
  have HBA := Lib.hid (HB5.out.trans (hba.mono HB5.out.size))
  have HAT := Lib.hid (ents_box w5 [x1, x2] 30 (fun x hx => by
    simp only [List.mem_cons, List.not_mem_nil, or_false] at hx
    rcases hx with rfl | rfl
    · exact H1.out
    · exact H2.out))
  refine (tright_any (some ⟨w5.heap.size, 0, none⟩) 2 [x1, x2] (w5.alloc (.cells (flatE [x1, x2]).toArray 30)) HAT.out (by simp) HS12.out).mono ?_
  rintro e w6 ⟨rfl, hb⟩
  rw [HR12.out]
  have hbz := hba.trans (hb.mono hba.size)
  have HB6 := Lib.hid (HBA.out.trans (hb.mono HBA.out.size))
  have HE61 := Lib.hid ((hbz.block _ (Array.getElem?_eq_some_iff.1 HE51.out).1).trans HE51.out)
  have HE62 := Lib.hid ((hbz.block _ (Array.getElem?_eq_some_iff.1 HE52.out).1).trans HE52.out)
  have HE63 := Lib.hid ((hbz.block _ (Array.getElem?_eq_some_iff.1 HE53.out).1).trans HE53.out)
  clear hba hbz hb HBA HAT
  go_wp2_with (first
    | refine wpList_load_e rfl 30 _ rfl w.heap.size 0 rfl x1 _ (row_ent HE61.out) Tryd.underlying30 rfl HIL1.out ?_
    | refine wpList_load_e rfl 30 _ rfl (w.heap.size + 1) 0 rfl x2 _ (row_ent HE62.out) Tryd.underlying30 rfl HIL2.out ?_
    | refine wpList_load_e rfl 30 _ rfl wc.heap.size 0 rfl x3 _ (row_ent HE63.out) Tryd.underlying30 rfl HIL3.out ?_
    | refine wpList_slice rfl 23 2 #[(0, _), (1, _)] rfl #[(0, .agg (entA x2)), (1, .agg (entA x1))] (map_two _ _ _ _ _ rfl rfl) _ _ (HSL.out x2 x1 H2.out H1.out w6) ?_)
  have hba : Below w6.heap.size w6 (w6.alloc (.cells (flatE [x2, x1]).toArray 30)) := (Below.refl _ _).alloc (Nat.le_refl _) _
  have HBA := Lib.hid (HB6.out.trans (hba.mono HB6.out.size))
  have HAT := Lib.hid (ents_box w6 [x2, x1] 30 (fun x hx => by
    simp only [List.mem_cons, List.not_mem_nil, or_false] at hx
    rcases hx with rfl | rfl
    · exact H2.out
    · exact H1.out))
  refine (tright_any (some ⟨w6.heap.size, 0, none⟩) 2 [x2, x1] (w6.alloc (.cells (flatE [x2, x1]).toArray 30)) HAT.out (by simp) HS21.out).mono ?_
  rintro e w7 ⟨rfl, hb⟩
  rw [HR21.out]
  have hbz := hba.trans (hb.mono hba.size)
  have HB7 := Lib.hid (HBA.out.trans (hb.mono HBA.out.size))
  have HE71 := Lib.hid ((hbz.block _ (Array.getElem?_eq_some_iff.1 HE61.out).1).trans HE61.out)
  have HE72 := Lib.hid ((hbz.block _ (Array.getElem?_eq_some_iff.1 HE62.out).1).trans HE62.out)
  have HE73 := Lib.hid ((hbz.block _ (Array.getElem?_eq_some_iff.1 HE63.out).1).trans HE63.out)
  clear hba hbz hb HBA HAT
  go_wp2_with (first
    | refine wpList_load_e rfl 30 _ rfl w.heap.size 0 rfl x1 _ (row_ent HE71.out) Tryd.underlying30 rfl HIL1.out ?_
    | refine wpList_load_e rfl 30 _ rfl (w.heap.size + 1) 0 rfl x2 _ (row_ent HE72.out) Tryd.underlying30 rfl HIL2.out ?_
    | refine wpList_load_e rfl 30 _ rfl wc.heap.size 0 rfl x3 _ (row_ent HE73.out) Tryd.underlying30 rfl HIL3.out ?_
    | refine wpList_slice rfl 23 2 #[(0, _), (1, _)] rfl #[(0, .agg (entA x3)), (1, .agg (entA x1))] (map_two _ _ _ _ _ rfl rfl) _ _ (HSL.out x3 x1 H3.out H1.out w7) ?_)
  have hba : Below w7.heap.size w7 (w7.alloc (.cells (flatE [x3, x1]).toArray 30)) := (Below.refl _ _).alloc (Nat.le_refl _) _
  have HBA := Lib.hid (HB7.out.trans (hba.mono HB7.out.size))
  have HAT := Lib.hid (ents_box w7 [x3, x1] 30 (fun x hx => by
    simp only [List.mem_cons, List.not_mem_nil, or_false] at hx
    rcases hx with rfl | rfl
    · exact H3.out
    · exact H1.out))
  refine (tright_any (some ⟨w7.heap.size, 0, none⟩) 2 [x3, x1] (w7.alloc (.cells (flatE [x3, x1]).toArray 30)) HAT.out (by simp) HS31.out).mono ?_
  rintro e w8 ⟨rfl, hb⟩
  rw [HR31.out]
  have hbz := hba.trans (hb.mono hba.size)
  have HB8 := Lib.hid (HBA.out.trans (hb.mono HBA.out.size))
  have HE81 := Lib.hid ((hbz.block _ (Array.getElem?_eq_some_iff.1 HE71.out).1).trans HE71.out)
  have HE82 := Lib.hid ((hbz.block _ (Array.getElem?_eq_some_iff.1 HE72.out).1).trans HE72.out)
  have HE83 := Lib.hid ((hbz.block _ (Array.getElem?_eq_some_iff.1 HE73.out).1).trans HE73.out)
  clear hba hbz hb HBA HAT
  go_wp2_with fail
  go_ret
  exact ⟨rfl, HB8.out⟩
end Go.Proofs.YthemolkmciofaaaDoor
