/- An entry cut off a body: the walk. -/
import Derived.Test.YtnbkjdakofeeaaaDoorTrCut
import Derived.Laws.CopyOwn
namespace Go.Proofs.YtnbkjdakofeeaaaDoor
open Go.RowKit Plain
set_option linter.unusedVariables false
set_option linter.unusedSimpArgs false
theorem results_row_tmp2 {P : Program} {fn : Func} {p u v : Tmp} {ty : TypeId} (h : fn.results = #[.cell p ty, .tmp u, .tmp v]) (tmps : Array Value) (w : World) (g : Nat) (t : TypeId) (cs : Array Value) (fr : Nat × Nat) (d : TypeDesc)
    (hp : tmps.getD p undef = .pointer (some ⟨g, 0, none⟩)) (hg : w.heap[g]? = some (.cells cs t fr))
    (hu : P.underlying ty = some d) (hd : (match d with | .struct _ | .array _ _ => true | _ => false) = true) (hi : (P.info? ty).map (·.size) = some cs.size) :
    (results fn tmps).run P w = .ok (.tuple #[.agg cs, tmps.getD u undef, tmps.getD v undef]) w := by
  have hp' : tmps[p]?.getD undef = .pointer (some ⟨g, 0, none⟩) := by simpa using hp
  simp [results, h, hp', asAddr, run_loadVar_row w g t ty cs fr d hg hu hd hi]
theorem wpList_build {P : Program} {w : World} {ops : Array Oper} {rest : List Oper} {o : Oper} {a : Act} {Q : Exit → Act → World → Prop} (hw : Region.wanted o (yielded ops a.tmps) = true) (ty : TypeId) (ps : Array (Nat × Operand)) (ho : o.op = .build ty ps)
    (qs : Array (Nat × Value)) (hq : (ps.map fun (i, x) => (i, a.eval x)) = qs) (v : Value) (hr : ∀ W, (Instr.build ty qs).run P W = .ok v W) (h : wpList P ops Q rest (a.put o.dst v) w) : wpList P ops Q (o :: rest) a w := by
  refine wpList_step ?_
  intro K hK
  rw [if_pos hw]
  unfold Oper.wp execOp
  simp only [ho, Sem.run_bind, hq, hr, Result.andThen_ok]
  exact hK _ _ h
theorem wpList_build_0 {P : Program} {w : World} {ops : Array Oper} {rest : List Oper} {o : Oper} {a : Act} {Q : Exit → Act → World → Prop} (hw : Region.wanted o (yielded ops a.tmps) = true) (ty : TypeId) (ho : o.op = .build ty #[])
    (v : Value) (hr : ∀ W, (Instr.build ty #[]).run P W = .ok v W) (h : wpList P ops Q rest (a.put o.dst v) w) : wpList P ops Q (o :: rest) a w :=
  wpList_build hw ty _ ho #[] (by simp) v hr h
theorem step_store_row {P : Program} {w : World} {ops : Array Oper} {o : Oper} {a : Act} {K : Act → World → Prop} {Q : Exit → Act → World → Prop} {E : Prop} (hw : Region.wanted o (yielded ops a.tmps) = true) (ty : TypeId) (x y : Operand) (ho : o.op = .store ty x y)
    (g : Nat) (cells : Array Value) (hx : a.eval x = .pointer (some ⟨g, 0, none⟩)) (hy : a.eval y = .agg cells)
    (t : TypeId) (old : Array Value) (hg : w.heap[g]? = some (.cells old t (0, 0))) (hi : (P.info? ty).map (·.size) = some cells.size)
    (hold : old.size = cells.size) (h1 : cells.all (·.oneCell') = true) (h : K (a.put o.dst undef) (w.setRow g cells)) :
    if Region.wanted o (yielded ops a.tmps) = true then Oper.wp P o a w K Q else E := by
  rw [if_pos hw]
  exact wp_store_row ty x y ho g cells hx hy t old hg hi hold h1 h
theorem yieldsIf_slice {P : Program} {ops : Array Oper} {S : World → Prop} {op : Oper} {a : Act} (hw : Region.wanted op (yielded ops a.tmps) = true) (ty : TypeId) (x lo : Operand) (ho : op.op = .slice ty x (some lo) none none)
    (u ul : Value) (h1 : a.eval x = u) (h2 : a.eval lo = ul) (v : Value) (hr : ∀ W, (Instr.sliceAt ty u (some ul) none none).run P W = .ok v W) : YieldsIf P ops S op v a := by
  refine .inl ⟨hw, fun W hS => ?_⟩
  unfold execOp
  simp [ho, h1, h2, hr]
theorem build_noEnt (W : World) : (Instr.build 44 #[]).run Tryd.prog W = .ok (.agg (entA noEnt)) W := by kernel_rfl
/-- What cut answers. -/
def CutQ (e : Ending) (w' : World) (L : List UInt8) : Prop :=
  if entT L = true then ∃ a2 n2 c2, e = .returned (.tuple #[.agg (entA (isT L)), .slice a2 n2 c2, .bool true]) ∧ RowB w' a2 n2 c2 (numsOf (txt (rsT L)))
  else e = .returned (.tuple #[.agg (entA noEnt), .slice none 0 0, .bool false])
theorem CutQ.bad {w' : World} {L : List UInt8} (h : entT L = false) : CutQ (.returned (.tuple #[.agg (entA noEnt), .slice none 0 0, .bool false])) w' L := by
  unfold CutQ
  rw [if_neg (by rw [h]; decide)]
theorem CutQ.good {w' : World} {L : List UInt8} {X : TE} {a2 : Option Addr} {n2 c2 : Nat} (h : entT L = true) (hX : isT L = X) (hr : RowB w' a2 n2 c2 (numsOf (txt (rsT L)))) : CutQ (.returned (.tuple #[.agg (entA X), .slice a2 n2 c2, .bool true])) w' L := by
  subst hX
  unfold CutQ
  rw [if_pos h]
  exact ⟨a2, n2, c2, rfl, hr⟩
theorem entA_set0 (k k' : Int) (p : ByteArray) (n : List Int) : (entA ⟨k, p, n⟩).setIfInBounds 0 (.int .i64 k') = entA ⟨k', p, n⟩ := by
  simp [entA, entL]
theorem entA_set1 (k : Int) (p p' : ByteArray) (n : List Int) : (entA ⟨k, p, n⟩).setIfInBounds 1 (.string p') = entA ⟨k, p', n⟩ := by
  simp [entA, entL]
theorem entL_splice (k : Int) (p : ByteArray) (n : List Int) (h : n.length = 20) : splice (entL ⟨k, p, zeros20⟩) 2 (U8 n) = entL ⟨k, p, n⟩ := by
  have h1 : (U8 zeros20).length = 20 := by rw [U8_length]; rfl
  unfold splice entL
  rw [U8_length, h]
  simp only [List.take_succ_cons, List.take_zero, List.drop_succ_cons]
  rw [List.drop_of_length_le (by rw [h1]; omega), List.append_nil]
  rfl
set_option maxRecDepth 100000 in
set_option maxHeartbeats 32000000 in
theorem tcut_any (a : Option Addr) (n c : Nat) (L : List UInt8) (w w0 : World) (R : RowB w0 a n c (numsOf (txt L))) (hw0 : Below w0.heap.size w0 w) (hn : n ≤ 100000) (hE : Env w) :
    Calls Tryd.prog 23 #[.slice a n c] w fun e w' => CutQ e w0 L ∧ Below w.heap.size w w' := by
  have HR := Lib.hid R
  have HW := Lib.hid (fun W (h : Below w.heap.size w W) => hw0.trans (h.mono hw0.size))
  have HE := Lib.hid hE
  have HN := Lib.hid hn
  have HBN := Lib.hid build_noEnt
  have HIN := Lib.hid (ent_info noEnt zeros20_len)
  have hze := zero_ent
  obtain ⟨W0, hW0⟩ : ∃ W, (w.alloc (.cells (entA noEnt) 44)).alloc (.cells (entA noEnt) 44) = W := ⟨_, rfl⟩
  have hs1 : (w.alloc (.cells (entA noEnt) 44)).heap.size = w.heap.size + 1 := by simp
  have hs2 : W0.heap.size = w.heap.size + 1 + 1 := by rw [← hW0]; simp
  have HB0 : Hid (Below w.heap.size w W0) := by rw [← hW0]; exact ((Below.refl _ _).alloc (Nat.le_refl _) _).alloc (by simp) _
  have HY0 : Hid (W0.heap[w.heap.size]? = some (.cells (entA noEnt) 44 (0, 0))) := by
    rw [← hW0]; exact (Below.heap_alloc _ _ _ (by rw [hs1]; omega)).trans (heap_alloc_new _ _)
  have HX0 : Hid (W0.heap[w.heap.size + 1]? = some (.cells (entA noEnt) 44 (0, 0))) := by
    have := heap_alloc_new (w.alloc (.cells (entA noEnt) 44)) (.cells (entA noEnt) 44)
    rw [hs1, hW0] at this
    exact this
  have hcv := Joins.run_convert_bytes_const_at (P := Tryd.prog) W0 22 5 #[.int .u8 32] 1 1 W0.heap.size rfl Tryd.underlying22 Tryd.underlying5
  have HS2 := Lib.hid hs2
  clear R hE hn hs1 hs2 hw0
  go_enter Tryd.func23, Tryd.ntmps23
  go_wp2_with fail
  clear hcv hW0
  have HBA : Hid (∀ o, Below w.heap.size w (W0.alloc o)) := fun o => HB0.out.alloc HB0.out.size o
  refine (cutb_any a n c L (some ⟨W0.heap.size, 0, none⟩) 1 32 _ w0 HR.out (HW.out _ (HBA.out _)) HN.out (Bytes.lit W0 W0.heap.size rfl [32] 5 (1, 2) 1 rfl (by omega) (by intro y hy; simp at hy; omega)) (HE.out.below (HBA.out _))).mono ?_
  rintro e w1 ⟨⟨a2, n2, c2, rfl, hA, hR2⟩, hb⟩
  have HB1 := Lib.hid ((HBA.out _).trans (hb.mono (HBA.out _).size))
  have stay : ∀ g r, g < W0.heap.size → W0.heap[g]? = some r → w1.heap[g]? = some r := fun g r hg hr => (hb.block g (by simp; omega)).trans ((Below.heap_alloc _ _ _ (by omega)).trans hr)
  have HY1 := Lib.hid (stay _ _ (by rw [HS2.out]; omega) HY0.out)
  have HX1 := Lib.hid (stay _ _ (by rw [HS2.out]; omega) HX0.out)
  have HD1 := Lib.hid hA
  have HR1 := Lib.hid hR2
  have HN2 : Hid (n2 ≤ 100000) := by
    show _ ≤ _
    have h1 := row_len hR2
    have h2 := (cut_len L 32).2
    have h3 := row_len HR.out
    have h4 := HN.out
    omega
  have HOK : Hid (entT L = ((Lib.cut L [32]).2.2 && (Lib.cut (Lib.cut L [32]).2.1 [0]).2.2 && !(modeOf (Lib.cut L [32]).1 == 0) && decide (20 ≤ (Lib.cut (Lib.cut L [32]).2.1 [0]).2.1.length))) := rfl
  have HIS : Hid (isT L = ⟨modeOf (Lib.cut L [32]).1, txt (Lib.cut (Lib.cut L [32]).2.1 [0]).1, numsOf (txt ((Lib.cut (Lib.cut L [32]).2.1 [0]).2.1.take 20))⟩) := rfl
  have HRS : Hid (rsT L = (Lib.cut (Lib.cut L [32]).2.1 [0]).2.1.drop 20) := rfl
  clear stay hb hA hR2 HBA HB0 HY0 HX0
  generalize (Lib.cut L [32]).1 = D at *
  generalize (Lib.cut L [32]).2.1 = B at *
  generalize (Lib.cut L [32]).2.2 = k1 at *
  obtain ⟨dl, hdl⟩ : ∃ n, D.length = n := ⟨_, rfl⟩
  rw [hdl] at HD1 ⊢
  clear hdl
  cases k1
  · have HBAD : Hid (entT L = false) := by show _ = _; rw [HOK.out]; rfl
    clear HOK HIS HRS HR1 HD1
    have HBZ := Lib.hid (below_setRow HB1.out (Nat.le_refl _) (entA noEnt))
    have HRD := Lib.hid (setRow_heap _ _ _ (entA noEnt) _ _ HY1.out)
    go_wp2_with (first
      | refine wpList_build_0 rfl 44 rfl (.agg (entA noEnt)) HBN.out ?_
      | refine wpList_store_row rfl 44 _ _ rfl w.heap.size (entA noEnt) rfl rfl 44 (entA noEnt) HY1.out HIN.out rfl (entA_one _) ?_)
    (try simp only [Exit.inBlock, Exit.then])
    refine bodyPost_ret (results_row_tmp2 Tryd.results23 _ _ w.heap.size 44 (entA noEnt) (0, 0) _ rfl HRD.out Tryd.underlying44 rfl HIN.out) rfl ?_
    exact ⟨CutQ.bad HBAD.out, HBZ.out⟩
  go_wp2_with fail
  have HBC : Hid (∀ o, Below w.heap.size w (w1.alloc o)) := fun o => HB1.out.alloc HB1.out.size o
  have hb0 : ∀ o, Below w1.heap.size w1 (w1.alloc o) := fun o => (Below.refl _ _).alloc (Nat.le_refl _) o
  refine (cutb_any a2 n2 c2 B (some ⟨w1.heap.size, 0, none⟩) 1 0 _ w0 HR1.out (HW.out _ (HBC.out _)) HN2.out (Bytes.lit w1 w1.heap.size rfl [0] 5 (0, 0) 1 rfl (by omega) (by intro y hy; simp at hy; omega)) (HE.out.below (HBC.out _))).mono ?_
  rintro e w2 ⟨⟨a3, n3, c3, rfl, hA, hR3⟩, hb⟩
  have hb12 := (hb0 (.cells ([0].map (Value.int .u8)).toArray 5 (0, 0))).trans (hb.mono (hb0 _).size)
  have HB2 := Lib.hid (HB1.out.trans (hb12.mono HB1.out.size))
  have HY2 := Lib.hid ((hb12.block _ (Array.getElem?_eq_some_iff.1 HY1.out).1).trans HY1.out)
  have HX2 := Lib.hid ((hb12.block _ (Array.getElem?_eq_some_iff.1 HX1.out).1).trans HX1.out)
  have HD2 := HD1
  have HN2r := Lib.hid hA
  have HT2 := Lib.hid hR3
  have HTL := Lib.hid (row_len hR3)
  clear hb hb0 hb12 hA hR3 HBC HB1 HY1 HX1 HD1 HR1
  generalize (Lib.cut B [0]).1 = N at *
  generalize (Lib.cut B [0]).2.1 = T at *
  generalize (Lib.cut B [0]).2.2 = k2 at *
  obtain ⟨nl, hnl⟩ : ∃ n, N.length = n := ⟨_, rfl⟩
  rw [hnl] at HN2r ⊢
  clear hnl
  have htx := text_run w2 a dl c _ (HD2.out.bytes.below (HW.out _ HB2.out))
  rw [str_nums] at htx
  go_wp2_with fail
  clear htx
  refine (mode_any (txt D) w2 (HE.out.below HB2.out)).mono ?_
  rw [txt_list]
  rintro e w3 ⟨rfl, hb⟩
  have HB3 := Lib.hid (HB2.out.trans (hb.mono HB2.out.size))
  have HY3 := Lib.hid ((hb.block _ (Array.getElem?_eq_some_iff.1 HY2.out).1).trans HY2.out)
  have HX3 := Lib.hid ((hb.block _ (Array.getElem?_eq_some_iff.1 HX2.out).1).trans HX2.out)
  have HN3r := HN2r
  have HT3 := HT2
  clear hb HB2 HY2 HX2 HN2r HT2 HD2
  generalize modeOf D = m at *
  have ho := range_mode (row_ent HX3.out)
  have fo := frozen_of_row w3 (w.heap.size + 1) 0 (entA noEnt) 44 HX3.out
  obtain ⟨wD, hWD⟩ : ∃ W, w3.setCell ⟨w.heap.size + 1, 0, none⟩ (.int .i64 m) = W := ⟨_, rfl⟩
  have HXD : Hid (wD.heap[w.heap.size + 1]? = some (.cells (entA ⟨m, ⟨#[]⟩, zeros20⟩) 44 (0, 0))) := by
    rw [← hWD]; exact (heap_setCell_same w3 (w.heap.size + 1) _ _ _ _ HX3.out).trans (by rw [← entA_set0 0 m ⟨#[]⟩ zeros20]; rfl)
  have HYD : Hid (wD.heap[w.heap.size]? = some (.cells (entA noEnt) 44 (0, 0))) := by
    rw [← hWD]; exact (Below.heap_setCell w3 _ _ _ (by show w.heap.size ≠ w.heap.size + 1; omega)).trans HY3.out
  have HBD : Hid (Below w.heap.size w wD) := by rw [← hWD]; exact HB3.out.setCell (by show w.heap.size ≤ w.heap.size + 1; omega) _
  have hb3D : Below (w.heap.size + 1) w3 wD := by rw [← hWD]; exact (Below.refl _ _).setCell (p := ⟨w.heap.size + 1, 0, none⟩) (Nat.le_refl _) _
  have hcm := range_mode (row_ent HXD.out)
  cases k2
  · have HBAD : Hid (entT L = false) := by show _ = _; rw [HOK.out]; rfl
    clear HOK HIS HRS HN3r HT3
    have HBZ := Lib.hid (below_setRow HBD.out (Nat.le_refl _) (entA noEnt))
    have HRD := Lib.hid (setRow_heap _ _ _ (entA noEnt) _ _ HYD.out)
    go_wp2_with (first
      | refine wpList_build_0 rfl 44 rfl (.agg (entA noEnt)) HBN.out ?_
      | refine wpList_store_row rfl 44 _ _ rfl w.heap.size (entA noEnt) rfl rfl 44 (entA noEnt) HYD.out HIN.out rfl (entA_one _) ?_)
    (try simp only [Exit.inBlock, Exit.then])
    refine bodyPost_ret (results_row_tmp2 Tryd.results23 _ _ w.heap.size 44 (entA noEnt) (0, 0) _ rfl HRD.out Tryd.underlying44 rfl HIN.out) rfl ?_
    exact ⟨CutQ.bad HBAD.out, HBZ.out⟩
  by_cases hm0 : m = 0
  · subst hm0
    have HBAD : Hid (entT L = false) := by show _ = _; rw [HOK.out]; rfl
    clear HOK HIS HRS HN3r HT3
    have HBZ := Lib.hid (below_setRow HBD.out (Nat.le_refl _) (entA noEnt))
    have HRD := Lib.hid (setRow_heap _ _ _ (entA noEnt) _ _ HYD.out)
    go_wp2_with (first
      | refine wpList_build_0 rfl 44 rfl (.agg (entA noEnt)) HBN.out ?_
      | refine wpList_store_row rfl 44 _ _ rfl w.heap.size (entA noEnt) rfl rfl 44 (entA noEnt) HYD.out HIN.out rfl (entA_one _) ?_)
    (try simp only [Exit.inBlock, Exit.then])
    refine bodyPost_ret (results_row_tmp2 Tryd.results23 _ _ w.heap.size 44 (entA noEnt) (0, 0) _ rfl HRD.out Tryd.underlying44 rfl HIN.out) rfl ?_
    exact ⟨CutQ.bad HBAD.out, HBZ.out⟩
  have hmb : (m == 0) = false := beq_eq_false_iff_ne.2 hm0
  by_cases h20 : n3 < 20
  · have h20i : (n3 : Int) < 20 := by omega
    have HBAD : Hid (entT L = false) := by show _ = _; rw [HOK.out, decide_eq_false (by rw [HTL.out]; omega)]; simp
    clear HOK HIS HRS HN3r HT3
    have HBZ := Lib.hid (below_setRow HBD.out (Nat.le_refl _) (entA noEnt))
    have HRD := Lib.hid (setRow_heap _ _ _ (entA noEnt) _ _ HYD.out)
    go_wp2_with (first
      | refine wpList_build_0 rfl 44 rfl (.agg (entA noEnt)) HBN.out ?_
      | refine wpList_store_row rfl 44 _ _ rfl w.heap.size (entA noEnt) rfl rfl 44 (entA noEnt) HYD.out HIN.out rfl (entA_one _) ?_)
    (try simp only [Exit.inBlock, Exit.then])
    refine bodyPost_ret (results_row_tmp2 Tryd.results23 _ _ w.heap.size 44 (entA noEnt) (0, 0) _ rfl HRD.out Tryd.underlying44 rfl HIN.out) rfl ?_
    exact ⟨CutQ.bad HBAD.out, HBZ.out⟩
  have h20i : ¬ (n3 : Int) < 20 := by omega
  have H20 : Hid (20 ≤ n3) := by show _ ≤ _; omega
  have HG : Hid (entT L = true) := by show _ = _; rw [HOK.out, hmb, decide_eq_true (by rw [HTL.out]; omega)]; rfl
  clear HOK h20
  obtain ⟨X, hX⟩ : ∃ X : TE, (⟨m, txt N, numsOf (txt (T.take 20))⟩ : TE) = X := ⟨_, rfl⟩
  have HIX0 : Hid (isT L = X) := by show _ = _; rw [HIS.out, hX]
  have HL20 : Hid ((numsOf (txt (T.take 20))).length = 20) := by
    show _ = _
    rw [numsOf_len, List.length_take, HTL.out]; have := H20.out; omega
  have HXN : Hid (X.n.length = 20) := by show _ = _; rw [← hX]; exact HL20.out
  have HXE0 : Hid (splice (entL ⟨m, txt N, zeros20⟩) 2 (U8 (numsOf (txt (T.take 20)))) = entL X) := by
    show _ = _
    rw [← hX]; exact entL_splice m (txt N) _ HL20.out
  have HTA : Hid (∃ ad, a3 = some ad ∧ ∀ W, Below w.heap.size w W → ∀ j v, (U8 (numsOf (txt (T.take 20))))[j]? = some v → W.cell? (ad.add j) = some v) := by
    obtain ⟨-, -, -, h0 | ⟨b, off, rfl, -⟩⟩ := HT3.out.bytes
    · have := H20.out; omega
    · refine ⟨⟨b, off, none⟩, rfl, fun W hW j v hv => ?_⟩
      obtain ⟨-, -, -, h0 | ⟨b', o', ha, hc⟩⟩ := (HT3.out.bytes.below (HW.out _ hW))
      · have := H20.out; omega
      · injection ha with ha
        injection ha with e1 e2 e3
        subst e1 e2
        have hj : j < 20 := by
          have := (List.getElem?_eq_some_iff.1 hv).1
          rw [U8_length, HL20.out] at this; exact this
        rw [Addr.add_mid, hc j (by have := H20.out; omega), ← hv]
        unfold U8
        have hTj : T[j]? = some (T[j]'(by rw [HTL.out]; have := H20.out; omega)) := List.getElem?_eq_getElem _
        rw [numsOf_txt, numsOf_txt]
        simp only [List.getElem?_map, List.getElem?_take_of_lt hj]
        rw [hTj]
        rfl
  obtain ⟨ids, hids⟩ : ∃ i, numsOf (txt (T.take 20)) = i := ⟨_, rfl⟩
  rw [hids] at HL20 HXE0 HTA
  clear hids hX HIS
  have htx2 := text_run wD a2 nl c2 _ (HN3r.out.bytes.below (HW.out _ HBD.out))
  rw [str_nums] at htx2
  have ho2 := range_name (row_ent HXD.out)
  rw [Nat.zero_add] at ho2
  have fo2 := frozen_of_row wD (w.heap.size + 1) 1 (entA ⟨m, ⟨#[]⟩, zeros20⟩) 44 HXD.out
  obtain ⟨wE, hWE⟩ : ∃ W, wD.setCell ⟨w.heap.size + 1, 1, none⟩ (.string (txt N)) = W := ⟨_, rfl⟩
  have HXE : Hid (wE.heap[w.heap.size + 1]? = some (.cells (entL ⟨m, txt N, zeros20⟩).toArray 44 (0, 0))) := by
    rw [← hWE]; exact (heap_setCell_same wD (w.heap.size + 1) _ _ _ _ HXD.out).trans (by rw [entA_set1 m ⟨#[]⟩ (txt N) zeros20]; rfl)
  have HBE : Hid (Below w.heap.size w wE) := by rw [← hWE]; exact HBD.out.setCell (by show w.heap.size ≤ w.heap.size + 1; omega) _
  have HYE : Hid (wE.heap[w.heap.size]? = some (.cells (entA noEnt) 44 (0, 0))) := by
    rw [← hWE]; exact (Below.heap_setCell wD _ _ _ (by show w.heap.size ≠ w.heap.size + 1; omega)).trans HYD.out
  have hsid := fun W => slice_id (w.heap.size + 1) 2 W
  obtain ⟨ad, rfl, hadc⟩ := HTA.out
  have HADC := Lib.hid hadc
  have hgo : goInt (U8 ids).length = .int .i64 20 := by rw [U8_length, HL20.out]; rfl
  have HIXL := Lib.hid (ent_infoL X HXN.out)
  have HIA := Lib.hid (ent_info X HXN.out)
  have HSA : Hid ((entA noEnt).size = (entA X).size) := by show _ = _; rw [entA_size _ HXN.out, entA_size _ zeros20_len]
  have hsl := fun W => slice_from (some ad) n3 c3 20 H20.out HT3.out.le W
  have HSL := Lib.hid hsl
  clear hadc HTA hsl
  go_wp2_with (first
    | (refine wpList_copy_splice rfl _ _ 22 22 rfl 5 Tryd.underlying22 (by kernel_rfl) (some ⟨w.heap.size + 1, 2, none⟩) (some ad) 20 20 n3 c3 rfl rfl (w.heap.size + 1) 2 (entL ⟨m, txt N, zeros20⟩) 44 HXE.out (U8 ids) (by rw [U8_length, HL20.out]; have := H20.out; show 20 = min n3 20; omega) (fun _ => ⟨rfl, ad, rfl, HADC.out wE HBE.out⟩) (by rw [U8_length, HL20.out, entL_len _ zeros20_len]; omega) (U8_one _) (w.heap.size + 1) wE (Below.refl _ _) (Nat.le_refl _) ?_
       intro w7 hx7 hb7
       rw [hgo]))
  have HX7 : Hid (w7.heap[w.heap.size + 1]? = some (.cells (entA X) 44 (0, 0))) := by
    have := hx7.out
    rw [HXE0.out] at this
    exact this
  have HY7 := Lib.hid ((hb7.block w.heap.size (Nat.lt_succ_self _)).trans HYE.out)
  have HB7 := Lib.hid (HBE.out.trans (hb7.mono (Nat.le_succ _)))
  obtain ⟨sa, hsa⟩ : ∃ x, subA (some ad) c3 20 = x := ⟨_, rfl⟩
  obtain ⟨nr, hnr⟩ : ∃ x, n3 - 20 = x := ⟨_, rfl⟩
  obtain ⟨cr, hcr⟩ : ∃ x, c3 - 20 = x := ⟨_, rfl⟩
  have hsl := HSL.out
  have HR20 := row_drop HT3.out 20 H20.out
  rw [hsa, hnr, hcr] at HR20
  simp only [hsa, hnr, hcr] at hsl
  have HR20 := Lib.hid HR20
  clear hsa hnr hcr
  clear hx7 hb7 ho fo ho2 fo2 hWD hWE htx2 hgo
  refine wp_region_noPanic ?_
  refine wp_region_held_drew (S := fun W => W.heap[w.heap.size + 1]? = some (.cells (entA X) 44 (0, 0))) (by kernel_rfl) ?_ (fun hHeld => ?_)
  · exact HX7.out
  refine wpAnyH_take (i := 0) (by simp only [List.getElem?_toArray, List.getElem?_cons_zero]; rfl) (by kernel_rfl) (by kernel_rfl) (by kernel_rfl) (fun _ _ _ h => h) (yieldsIf_load_mid (by rfl) 44 _ rfl (w.heap.size + 1) 0 rfl (entL X) _ (fun W hSW => row_ent hSW) Tryd.underlying44 rfl HIXL.out) (by assumption) ?_
  try simp only [Act.put, List.setIfInBounds_toArray, List.set_cons_zero, List.set_cons_succ]
  refine wpAnyH_take (i := 1) (v := ?_) (by simp only [List.getElem?_toArray, List.getElem?_cons_succ, List.getElem?_cons_zero]; rfl) (by kernel_rfl) (by kernel_rfl) (by kernel_rfl) (fun _ _ _ h => h) (Or.inl ⟨by rfl, ?_⟩) (by assumption) ?_
  rotate_left
  · intro W hSW
    go_simp
    try with_reducible rfl
  try simp only [Act.put, List.setIfInBounds_toArray, List.set_cons_zero, List.set_cons_succ]
  refine wpAnyH_take (i := 2) (v := ?_) (by simp only [List.getElem?_toArray, List.getElem?_cons_succ, List.getElem?_cons_zero]; rfl) (by kernel_rfl) (by kernel_rfl) (by kernel_rfl) (fun _ _ _ h => h) (Or.inl ⟨by rfl, ?_⟩) (by assumption) ?_
  rotate_left
  · intro W hSW
    go_simp
    try with_reducible rfl
  try simp only [Act.put, List.setIfInBounds_toArray, List.set_cons_zero, List.set_cons_succ]
  refine wpAnyH_take (i := 3) (by simp only [List.getElem?_toArray, List.getElem?_cons_succ, List.getElem?_cons_zero]; rfl) (by kernel_rfl) (by kernel_rfl) (by kernel_rfl) (fun _ _ _ h => h) (yieldsIf_slice (by rfl) 22 _ _ rfl (.slice (some ad) n3 c3) (.int .i64 20) rfl rfl (.slice sa nr cr) hsl) (by assumption) ?_
  try simp only [Act.put, List.setIfInBounds_toArray, List.set_cons_zero, List.set_cons_succ]
  refine wpAnyH_ready (rs := [4]) (by kernel_rfl) (by simp) ?_
  refine AllReadyH.cons (by simp only [List.getElem?_toArray, List.getElem?_cons_succ, List.getElem?_cons_zero]; rfl) (fun K hK => ?_) AllReadyH.nil
  refine step_store_row (by rfl) 44 _ _ (by rfl) w.heap.size (entA X) (by rfl) (by rfl) 44 (entA noEnt) HY7.out HIA.out HSA.out (entA_one _) ?_
  refine hK.out _ _ (((setRow_other _ _ _ _ (by omega)).trans HX7.out)) (fun hHeld2 => ?_)
  clear hK K hHeld
  have hHeld := hHeld2
  clear hHeld2
  try simp only [Act.put, List.setIfInBounds_toArray, List.set_cons_zero, List.set_cons_succ]
  refine wpAnyH_take (i := 5) (v := ?_) (by simp only [List.getElem?_toArray, List.getElem?_cons_succ, List.getElem?_cons_zero]; rfl) (by kernel_rfl) (by kernel_rfl) (by kernel_rfl) (fun _ _ _ h => h) (Or.inl ⟨by rfl, ?_⟩) (by assumption) ?_
  rotate_left
  · intro W hSW
    go_simp
    try with_reducible rfl
  try simp only [Act.put, List.setIfInBounds_toArray, List.set_cons_zero, List.set_cons_succ]
  refine wpAnyH_take (i := 6) (v := ?_) (by simp only [List.getElem?_toArray, List.getElem?_cons_succ, List.getElem?_cons_zero]; rfl) (by kernel_rfl) (by kernel_rfl) (by kernel_rfl) (fun _ _ _ h => h) (Or.inl ⟨by rfl, ?_⟩) (by assumption) ?_
  rotate_left
  · intro W hSW
    go_simp
    try with_reducible rfl
  try simp only [Act.put, List.setIfInBounds_toArray, List.set_cons_zero, List.set_cons_succ]
  refine wpAnyH_done (by kernel_rfl) ?_ _
  refine NoPanic.normal ?_
  clear hHeld hsl
  have HBZ : Hid (Below w.heap.size w (w7.drew.setRow w.heap.size (entA X))) := below_setRow HB7.out.drew (Nat.le_refl _) _
  have HRZ : Hid ((w7.drew.setRow w.heap.size (entA X)).heap[w.heap.size]? = some (.cells (entA X) 44 (0, 0))) := setRow_heap _ _ _ (entA X) _ _ HY7.out
  have HRR : Hid (RowB w0 sa nr cr (numsOf (txt (rsT L)))) := by
    show RowB _ _ _ _ _
    rw [HRS.out]
    exact HR20.out
  go_wp2_with fail
  (try simp only [Exit.inBlock, Exit.then])
  refine bodyPost_ret (results_row_tmp2 Tryd.results23 _ _ w.heap.size 44 (entA X) (0, 0) _ rfl HRZ.out Tryd.underlying44 rfl HIA.out) rfl ?_
  exact ⟨CutQ.good HG.out HIX0.out HRR.out, HBZ.out⟩
end Go.Proofs.YtnbkjdakofeeaaaDoor
