/- Two entries compared; which entries a tree may have: the walks. -/
import Derived.Test.YthemolkmciofaaaDoorTrCmp
import Derived.Test.YthemolkmciofaaaDoorCount
import Derived.Laws.Cover1
namespace Go.Proofs.YthemolkmciofaaaDoor
open Go.RowKit Go.WideMaps Go.Maps Plain
set_option linter.unusedVariables false
set_option linter.unusedSimpArgs false
set_option maxRecDepth 100000 in
set_option maxHeartbeats 8000000 in
theorem compare_any (x y : TE) (hx20 : x.n.length = 20) (hxp : x.p.size ≤ 100000) (hy20 : y.n.length = 20) (hyp : y.p.size ≤ 100000) (w : World) :
    Calls Tryd.prog 18 #[.agg (entA x), .agg (entA y)] w fun e w' => e = .returned (.int .i64 (Lib.compareBytes (keyT x) (keyT y))) ∧ Below w.heap.size w w' := by
  have HKX := Lib.hid (key_any x hx20 hxp)
  have HKY := Lib.hid (key_any y hy20 hyp)
  have HCP0 := fun W => Tryd.strings_Compare (txt (keyT x)) (txt (keyT y)) W
  simp only [txt_list] at HCP0
  have HCP := Lib.hid HCP0
  clear HCP0
  have HIX := Lib.hid (ent_infoL x hx20)
  have HIY := Lib.hid (ent_infoL y hy20)
  have HB0 : Hid (Below w.heap.size w ((w.alloc (.cells (entA x) 30)).alloc (.cells (entA y) 30))) := ((Below.refl _ _).alloc (Nat.le_refl _) _).alloc (by simp) _
  have hsz1 : (w.alloc (.cells (entA x) 30)).heap.size = w.heap.size + 1 := by simp
  have HX0 : Hid (((w.alloc (.cells (entA x) 30)).alloc (.cells (entA y) 30)).heap[w.heap.size]? = some (.cells (entA x) 30 (0, 0))) := (Below.heap_alloc _ _ _ (by rw [hsz1]; omega)).trans (heap_alloc_new _ _)
  have HY0 : Hid (((w.alloc (.cells (entA x) 30)).alloc (.cells (entA y) 30)).heap[w.heap.size + 1]? = some (.cells (entA y) 30 (0, 0))) := by
    have := heap_alloc_new (w.alloc (.cells (entA x) 30)) (.cells (entA y) 30)
    rw [hsz1] at this
    exact this
  clear hsz1
  go_enter Tryd.func18, Tryd.ntmps18
  go_wp2_with fail
  generalize (w.alloc (.cells (entA x) 30)).alloc (.cells (entA y) 30) = w0 at *
  have HRX := Lib.hid (row_ent HX0.out)
  have HRY := Lib.hid (row_ent HY0.out)
  have HLX := Lib.hid (Array.getElem?_eq_some_iff.1 HX0.out).1
  have HLY := Lib.hid (Array.getElem?_eq_some_iff.1 HY0.out).1
  clear hx20 hxp hy20 hyp
  refine wp_region_noPanic ?_
  refine wp_region_held_drew (S := fun W => Below w0.heap.size w0 W) (by kernel_rfl) ?_ (fun hHeld => ?_)
  · exact (Below.refl _ _).drew
  refine wpAnyH_take (i := 0) (by simp only [List.getElem?_toArray, List.getElem?_cons_zero]; rfl) (by kernel_rfl) (by kernel_rfl) (by kernel_rfl) (fun _ _ _ h => h) (yieldsIf_load_mid (by rfl) 30 _ rfl w.heap.size 0 rfl (entL x) _ (fun W hSW => range_below HRX.out hSW HLX.out) Tryd.underlying30 rfl HIX.out) (by assumption) ?_
  try simp only [Act.put, List.setIfInBounds_toArray, List.set_cons_zero, List.set_cons_succ]
  refine wpAnyH_take (i := 2) (by simp only [List.getElem?_toArray, List.getElem?_cons_succ, List.getElem?_cons_zero]; rfl) (by kernel_rfl) (by kernel_rfl) (by kernel_rfl) (fun _ _ _ h => h) (yieldsIf_load_mid (by rfl) 30 _ rfl (w.heap.size + 1) 0 rfl (entL y) _ (fun W hSW => range_below HRY.out hSW HLY.out) Tryd.underlying30 rfl HIY.out) (by assumption) ?_
  try simp only [Act.put, List.setIfInBounds_toArray, List.set_cons_zero, List.set_cons_succ]
  refine wpAnyH_ready (rs := [1]) (by kernel_rfl) (by simp) ?_
  refine AllReadyH.cons (by simp only [List.getElem?_toArray, List.getElem?_cons_succ, List.getElem?_cons_zero]; rfl) (fun K hK => ?_) AllReadyH.nil
  go_simp
  refine (HKX.out _).mono ?_
  rintro e v1 ⟨rfl, hb⟩
  have hb1 : Below w0.heap.size w0 v1 := (Below.refl _ _).drew.trans hb
  have HB1 := Lib.hid hb1
  clear hb
  go_wp2_with fail
  refine hK.out _ _ (hb1) (fun hHeld2 => ?_)
  clear hK K hHeld
  have hHeld := hHeld2
  clear hHeld2
  try simp only [Act.put, List.setIfInBounds_toArray, List.set_cons_zero, List.set_cons_succ]
  clear hb1
  refine wpAnyH_ready (rs := [3]) (by kernel_rfl) (by simp) ?_
  refine AllReadyH.cons (by simp only [List.getElem?_toArray, List.getElem?_cons_succ, List.getElem?_cons_zero]; rfl) (fun K hK => ?_) AllReadyH.nil
  go_simp
  refine (HKY.out v1).mono ?_
  rintro e v2 ⟨rfl, hb⟩
  have hb2 : Below w0.heap.size w0 v2 := HB1.out.trans (hb.mono HB1.out.size)
  have HB2 := Lib.hid hb2
  clear hb
  go_wp2_with fail
  refine hK.out _ _ (hb2) (fun hHeld2 => ?_)
  clear hK K hHeld
  have hHeld := hHeld2
  clear hHeld2
  try simp only [Act.put, List.setIfInBounds_toArray, List.set_cons_zero, List.set_cons_succ]
  clear hb2
  refine wpAnyH_ready (rs := [4]) (by kernel_rfl) (by simp) ?_
  refine AllReadyH.cons (by simp only [List.getElem?_toArray, List.getElem?_cons_succ, List.getElem?_cons_zero]; rfl) (fun K hK => ?_) AllReadyH.nil
  go_simp
  refine (HCP.out v2).mono ?_
  rintro e v3 ⟨rfl, rfl⟩
  go_wp2_with fail
  refine hK.out _ _ (HB2.out) (fun hHeld2 => ?_)
  clear hK K hHeld
  have hHeld := hHeld2
  clear hHeld2
  try simp only [Act.put, List.setIfInBounds_toArray, List.set_cons_zero, List.set_cons_succ]
  refine wpAnyH_take (i := 5) (v := ?_) (by simp only [List.getElem?_toArray, List.getElem?_cons_succ, List.getElem?_cons_zero]; rfl) (by kernel_rfl) (by kernel_rfl) (by kernel_rfl) (fun _ _ _ h => h) (Or.inl ⟨by rfl, ?_⟩) (by assumption) ?_
  rotate_left
  · intro W hSW
    go_simp
    try with_reducible rfl
  try simp only [Act.put, List.setIfInBounds_toArray, List.set_cons_zero, List.set_cons_succ]
  refine wpAnyH_done (by kernel_rfl) ?_ _
  refine NoPanic.normal ?_
  clear hHeld
  go_wp2_with fail
  go_ret
  exact ⟨rfl, HB0.out.trans (HB2.out.mono HB0.out.size)⟩
theorem step_geq0 : True := trivial
theorem str_inj (a b : ByteArray) (h : Value.string a = Value.string b) : a = b := by injection h
theorem strKey : Maps.Keyed Tryd.prog 9 := Maps.string_keyed Tryd.underlying9
theorem zero_int (u : World) : (zeroValue 3).run Tryd.prog u = .ok (.int .i64 0) u := by kernel_rfl
theorem key_str (s : ByteArray) (h : s.size ≤ 100000) : keyOf Tryd.prog 9 (.string s) = some (.string s.data.toList) := keyOf_string_mk Tryd.underlying9 (by unfold maxLen; omega)
theorem wpList_mapUpdate {P : Program} {w : World} {ops : Array Oper} {rest : List Oper} {o : Oper} {a : Act} {Q : Exit → Act → World → Prop} (hg : o.guard = none) (ty : TypeId) (x y z : Operand) (ho : o.op = .mapUpdate ty x y z)
    (u1 u2 u3 : Value) (h1 : a.eval x = u1) (h2 : a.eval y = u2) (h3 : a.eval z = u3) (w' : World) (hr : (Instr.mapUpdate ty u1 u2 u3).run P w = .ok () w') (h : wpList P ops Q rest (a.put o.dst undef) w') : wpList P ops Q (o :: rest) a w := by
  refine wpList_plain hg fun K' hK' => ?_
  unfold Oper.wp execOp
  simp only [ho, h1, h2, h3, Sem.run_bind, hr, Result.andThen_ok]
  exact hK' _ _ h
theorem wpList_lookup {P : Program} {w : World} {ops : Array Oper} {rest : List Oper} {o : Oper} {a : Act} {Q : Exit → Act → World → Prop} (hg : o.guard = none) (ty : TypeId) (x y : Operand) (c : Bool) (ho : o.op = .lookup ty x y c)
    (u1 u2 : Value) (h1 : a.eval x = u1) (h2 : a.eval y = u2) (v : Value) (hr : (Instr.lookup ty u1 u2 c).run P w = .ok v w) (h : wpList P ops Q rest (a.put o.dst v) w) : wpList P ops Q (o :: rest) a w := by
  refine wpList_plain hg fun K' hK' => ?_
  unfold Oper.wp execOp
  simp only [ho, h1, h2, Sem.run_bind, hr, Result.andThen_ok]
  exact hK' _ _ h
theorem yieldsIf_lookup {P : Program} {ops : Array Oper} {S : World → Prop} {op : Oper} {a : Act} (hw : Region.wanted op (yielded ops a.tmps) = true) (ty : TypeId) (x y : Operand) (c : Bool) (ho : op.op = .lookup ty x y c)
    (u1 u2 : Value) (h1 : a.eval x = u1) (h2 : a.eval y = u2) (v : Value) (hr : ∀ W, S W → (Instr.lookup ty u1 u2 c).run P W = .ok v W) : YieldsIf P ops S op v a := by
  refine .inl ⟨hw, fun W hS => ?_⟩
  unfold execOp
  simp [ho, h1, h2, hr W hS]
theorem wpList_ent {P : Program} {ops : Array Oper} {rest : List Oper} {op : Oper} {a : Act} {w : World} {Q : Exit → Act → World → Prop} (hgd : op.guard = none) (ty : TypeId) (x : Operand) (ho : op.op = .load ty x)
    (b o : Nat) (hx : a.eval x = .pointer (some ⟨b, o, none⟩)) (y : TE) (d : TypeDesc) (hc : w.rangeAt b o (entL y))
    (hu : P.underlying ty = some d) (hd : d.isRow = true) (hi : (P.info? ty).map (·.size) = some (entL y).length)
    (h : wpList P ops Q rest (a.put op.dst (.agg (entA y))) w) : wpList P ops Q (op :: rest) a w := wpList_load_mid hgd ty x ho b o hx (entL y) d hc hu hd hi h
abbrev CM (w : World) (b : Nat) (ks : List ByteArray) : Prop := CountMap Tryd.prog 9 3 Value.string w b ks
def keysOf (xs : List TE) (k : Nat) : List ByteArray := ((xs.take k).map (·.p)).reverse
theorem keysOf_step {xs : List TE} {k : Nat} {x : TE} (h : xs[k]? = some x) : keysOf xs (k + 1) = x.p :: keysOf xs k := by
  unfold keysOf; rw [take_snoc h, List.map_append, List.reverse_append]; rfl
theorem keysOf_len (xs : List TE) (k : Nat) : (keysOf xs k).length ≤ xs.length := by unfold keysOf; simp; omega
theorem cnt_pos {α : Type} [DecidableEq α] {a : α} {ks : List α} (h : a ∈ ks) : cnt a ks ≠ 0 := Nat.ne_of_gt (List.count_pos_iff.2 h)
theorem dup_all (xs : List TE) (k : Nat) (x : TE) : ((xs.take k).all fun y => !(y.p.data.toList == x.p.data.toList)) = decide (cnt x.p (keysOf xs k) = 0) := by
  by_cases h : x.p ∈ keysOf xs k
  · have h1 : cnt x.p (keysOf xs k) ≠ 0 := cnt_pos h
    rw [decide_eq_false h1, List.all_eq_false]
    unfold keysOf at h
    rw [List.mem_reverse, List.mem_map] at h
    obtain ⟨y, hy, e⟩ := h
    exact ⟨y, hy, by rw [e]; simp⟩
  · rw [cnt_zero h, decide_eq_true rfl, List.all_eq_true]
    intro y hy
    have hne : ¬ y.p.data.toList = x.p.data.toList := fun e => h (by
      unfold keysOf
      rw [List.mem_reverse, List.mem_map]
      exact ⟨y, hy, bytes_ext e⟩)
    rw [beq_eq_false_iff_ne.2 hne]; rfl
theorem slice_modes (B : Nat) (w : World) : (Instr.sliceAt 49 (.pointer (some ⟨B, 0, none⟩)) none none none).run Tryd.prog w = .ok (.slice (some ⟨B, 0, none⟩) 5 5) w := by
  have hal : Tryd.prog.arrayLen 49 = 5 := by kernel_rfl
  have hsz : ∀ W : World, (sizeOf (Tryd.prog.elem 49)).run Tryd.prog W = .ok 1 W := fun W => by kernel_rfl
  rw [run_sliceAt_array_all (P := Tryd.prog) w 49 ⟨B, 0, none⟩ (by kernel_rfl), hal]
  try rw [hsz]
  try simp [Result.andThen_ok, slicedAt]
  try (unfold Addr.add; split <;> simp_all)
def modesI : List Int := [16384, 33188, 33261, 40960, 57344]
theorem modes_has (k : Int) : (modesI.take 5).contains k = modeOk k := by
  unfold modesI modeOk
  simp only [List.take_succ_cons, List.take_zero, List.contains_cons, List.contains_nil, Bool.or_false, Bool.or_assoc]
theorem contains_modes (bm : Nat) (k : Int) (W : World) (h : W.heap[bm]? = some (.cells modesA 49 (0, 0))) :
    Calls Tryd.prog 21 #[.slice (some ⟨bm, 0, none⟩) 5 5, .int .i64 k] W fun e w' => e = .returned (.bool (modeOk k)) ∧ w' = W := by
  have := Tryd.slices_Contains_int bm 0 5 5 modesI k W (by decide) (by decide) (fun j hj => by
    have hj5 : j < 5 := hj
    rw [Nat.zero_add, cell_of_row _ _ _ _ _ _ h]
    have : j = 0 ∨ j = 1 ∨ j = 2 ∨ j = 3 ∨ j = 4 := by omega
    rcases this with rfl | rfl | rfl | rfl | rfl <;> rfl)
  rw [modes_has] at this
  exact this
def zeros5 : Array Value := #[.int .i64 0, .int .i64 0, .int .i64 0, .int .i64 0, .int .i64 0]
theorem zero_modes5 (w : World) : (zeroValue 49).run Tryd.prog w = .ok (.agg zeros5) w := by kernel_rfl
theorem modesA_one : modesA.all (·.oneCell') = true := by decide +kernel
set_option maxRecDepth 100000 in
set_option maxHeartbeats 64000000 in
theorem tright_any (a : Option Addr) (c : Nat) (xs : List TE) (w : World) (h : EsAt w a xs) (hn : xs.length ≤ 1000000) (hps : ∀ x ∈ xs, x.p.size ≤ 100000) :
    Calls Tryd.prog 10 #[.slice a xs.length c] w fun e w' => e = .returned (.bool (rightT xs)) ∧ Below w.heap.size w w' := by
  have H := Lib.hid h
  have HPS := Lib.hid hps
  have HK0 : Hid (CM (w.alloc (.map #[] 0)) w.heap.size []) := CountMap.made w Tryd.prog 9 3 Value.string
  have HB0 : Hid (Below w.heap.size w (w.alloc (.map #[] 0))) := (Below.refl _ _).alloc (Nat.le_refl _) _
  obtain ⟨n, hnl⟩ : ∃ n, xs.length = n := ⟨_, rfl⟩
  have HN := Lib.hid hnl
  have HNB : Hid (n ≤ 1000000) := by show _ ≤ _; omega
  rw [hnl]
  clear h hn hnl hps
  have hmm := @run_makeMap Tryd.prog
  go_enter Tryd.func10, Tryd.ntmps10
  go_wp2_with fail
  clear hmm
  generalize w.alloc (.map #[] 0) = w0 at *
  refine (modes_any w0).mono ?_
  rintro e w1 ⟨rfl, hb⟩
  have HB1 := Lib.hid (HB0.out.trans (hb.mono HB0.out.size))
  have HK1 : Hid (CM w1 w.heap.size []) := HK0.out.below hb HK0.out.lt
  clear hb HB0 HK0
  have hz5 := zero_modes5
  have HI5 : Hid ((Tryd.prog.info? 49).map (·.size) = some modesA.size) := by show _ = _; kernel_rfl
  have HZ5 : Hid ((w1.alloc (.cells zeros5 49)).heap[w1.heap.size]? = some (.cells zeros5 49 (0, 0))) := heap_alloc_new _ _
  have HMD0 := Lib.hid (setRow_heap _ _ _ modesA _ _ HZ5.out)
  have hb2 : Below w1.heap.size w1 ((w1.alloc (.cells zeros5 49)).setRow w1.heap.size modesA) := below_setRow ((Below.refl _ _).alloc (Nat.le_refl _) _) (Nat.le_refl _) _
  have HB2 := Lib.hid (HB1.out.trans (hb2.mono HB1.out.size))
  have HK2 : Hid (CM ((w1.alloc (.cells zeros5 49)).setRow w1.heap.size modesA) w.heap.size []) := HK1.out.below hb2 HK1.out.lt
  have HGM := Lib.hid HK1.out.lt
  clear hb2 HB1 HK1
  go_wp2_with (first
    | refine wpList_store_row rfl 49 _ _ rfl w1.heap.size modesA rfl rfl 49 zeros5 HZ5.out HI5.out rfl modesA_one ?_)
  clear HZ5 hz5 HI5
  generalize (w1.alloc (.cells zeros5 49)).setRow w1.heap.size modesA = w2 at *
  generalize w1.heap.size = bm at *
  go_loopw [11] (fun i wr => ∃ k : Nat, k ≤ n ∧ i = .int .i64 (k : Int) ∧ CM wr w.heap.size (keysOf xs k) ∧ wr.heap[bm]? = some (.cells modesA 49 (0, 0)) ∧ Below w.heap.size w wr ∧ ∀ i x, i < k → xs[i]? = some x → entOk xs i x = true) (fun i _ => n - (intOf i).toNat)
  case atStart => exact ⟨0, by omega, rfl, HK2.out, HMD0.out, HB2.out, fun j x hj => absurd hj (by omega)⟩
  case round =>
    obtain ⟨k, hk, rfl, hg, hmd, hb, hok⟩ := hrel
    have HKW := Lib.hid hg
    have HMW := Lib.hid hmd
    have HBW := Lib.hid hb
    have HOK := Lib.hid hok
    have WK := Lib.hid (next_int k (by have := HNB.out; omega))
    clear hg hb hok hmd HK2 HMD0 HB2
    by_cases hkn : k = n
    · subst hkn
      have hki : ¬ (k : Int) < (k : Int) := by omega
      have HALL : Hid (rightT xs = true) := rightT_all fun i x hi hx => HOK.out i x (by rw [← HN.out]; exact hi) hx
      clear HOK
      go_wp2_with fail
      go_ret
      exact ⟨by rw [HALL.out]; rfl, HBW.out⟩
    · have hkl : k < n := by omega
      have hki : (k : Int) < (n : Int) := by omega
      obtain ⟨b, off, x, rfl, hp, h20, hbl, hr⟩ := H.out.at (k := k) (by rw [HN.out]; exact hkl)
      have HR := Lib.hid (range_below hr HBW.out hbl)
      have HP := Lib.hid hp
      have H20 := Lib.hid h20
      have HKN := Lib.hid hkl
      have HPX := Lib.hid (HPS.out x (List.mem_of_getElem? hp))
      have HI := Lib.hid (ent_info x h20)
      have HL := Lib.hid (ent_infoL x h20)
      have HS : Hid ((entA noEnt).size = (entA x).size) := by show _ = _; rw [entA_size _ h20, entA_size _ zeros20_len]
      have hze := zero_ent
      have HZN : Hid ((wr.alloc (.cells (entA noEnt) 30)).heap[wr.heap.size]? = some (.cells (entA noEnt) 30 (0, 0))) := heap_alloc_new _ _
      have hb2 : Below wr.heap.size wr ((wr.alloc (.cells (entA noEnt) 30)).setRow wr.heap.size (entA x)) := below_setRow ((Below.refl _ _).alloc (Nat.le_refl _) _) (Nat.le_refl _) _
      have HBWb := Lib.hid (HBW.out.trans (hb2.mono HBW.out.size))
      have HBX := Lib.hid (setRow_heap _ _ _ (entA x) _ _ HZN.out)
      have HKb : Hid (CM ((wr.alloc (.cells (entA noEnt) 30)).setRow wr.heap.size (entA x)) w.heap.size (keysOf xs k)) := HKW.out.below hb2 HKW.out.lt
      have hml := (Array.getElem?_eq_some_iff.1 HMW.out).1
      have HMb := Lib.hid ((hb2.block bm hml).trans HMW.out)
      have HMX : Hid (w.heap.size < bm ∧ bm < wr.heap.size) := ⟨HGM.out, hml⟩
      have HYK0 : Hid (∀ j y, xs[j]? = some y → ∀ W, Below w.heap.size w W → W.rangeAt b (off + j * 22) (entL y)) := fun j y hy W hW => by
        rcases H.out.rows with h0 | ⟨b3, off3, e3, hl3, hc3⟩
        · rw [HN.out] at h0; omega
        · injection e3 with e3
          injection e3 with e4 e5 _
          subst e4 e5
          exact range_below (hc3 j y hy) hW hl3
      clear hr hbl hp h20 hb2 hkl hml hkn
      obtain ⟨wb, hwb⟩ : ∃ W, (wr.alloc (.cells (entA noEnt) 30)).setRow wr.heap.size (entA x) = W := ⟨_, rfl⟩
      rw [hwb] at HBWb HBX HKb HMb
      have HWB := Lib.hid hwb
      clear hwb HKW HBW HMW
      have HKL := Lib.hid (key_str x.p HPX.out)
      have hlk := CountMap.look HKb.out strKey Tryd.underlying48 (zero_int wb) str_inj x.p HKL.out
      obtain ⟨c0, hc0⟩ : ∃ c, cnt x.p (keysOf xs k) = c := ⟨_, rfl⟩
      obtain ⟨w9, hup, hkm, hgb⟩ := CountMap.store HKb.out strKey Tryd.underlying48 Tryd.underlying3 str_inj (by have h1 := HNB.out; have h2 := keysOf_len xs k; rw [HN.out] at h2; omega) x.p HKL.out ((c0 : Int) + 1) (by rw [hc0])
      have hcb : c0 ≤ 1000000 := by have h1 := HNB.out; have h2 := keysOf_len xs k; have h3 := cnt_le x.p (keysOf xs k); rw [hc0] at h3; rw [HN.out] at h2; omega
      have hcc : cnt x.p (keysOf xs (k + 1)) = c0 + 1 := by rw [keysOf_step HP.out, cnt_self, hc0]
      rw [hc0] at hlk
      rw [← keysOf_step HP.out] at hkm
      have HCM : Hid (CM w9 w.heap.size (keysOf xs (k + 1))) := hkm
      have hbl0 := (Array.getElem?_eq_some_iff.1 HBX.out).1
      have HBX9 := Lib.hid ((hgb.block wr.heap.size hbl0 (fun e => by injection e with e; have := HMX.out; omega)).trans HBX.out)
      have HMD := Lib.hid ((hgb.block bm (Array.getElem?_eq_some_iff.1 HMb.out).1 (fun e => by injection e with e; have := HMX.out; omega)).trans HMb.out)
      have HB9 : Hid (Below w.heap.size w w9) := HBWb.out.grown hgb HBWb.out.size (fun g hg => by injection hg with hg; omega)
      have HDUP : Hid (((xs.take k).all fun y => !(y.p.data.toList == x.p.data.toList)) = decide (c0 = 0)) := by show _ = _; rw [dup_all, hc0]
      have hcn := range_name (row_ent HBX.out)
      rw [Nat.zero_add] at hcn
      have wc : wrap64 ((c0 : Int) + 1) = (c0 : Int) + 1 := by
        rw [show (c0 : Int) + 1 = ((c0 + 1 : Nat) : Int) by omega]
        exact IntWalk.wrap64_in _ (by omega)
      have HCB := Lib.hid hcb
      obtain ⟨cc, hcce⟩ : ∃ cc, c0 + 1 = cc := ⟨_, rfl⟩
      have hc1i : (c0 : Int) + 1 = (cc : Int) := by omega
      rw [hcce] at hcc
      rw [hc1i] at hup wc
      have HCC := Lib.hid hcc
      have HCE := Lib.hid hcce
      clear hkm hgb hbl0 hcc hcb hc0 hcce HBWb HKb HMb
      go_wp2_with (first
        | refine wpList_ent rfl 30 _ rfl b (off + k * 22) rfl x _ HR.out Tryd.underlying30 rfl HL.out ?_
        | (refine wpList_store_row rfl 30 _ _ rfl wr.heap.size (entA x) rfl rfl 30 (entA noEnt) HZN.out HI.out HS.out (entA_one _) ?_; rw [HWB.out])
        | refine wpList_lookup rfl 48 _ _ _ rfl (.map (some w.heap.size)) (.string x.p) rfl rfl _ hlk ?_
        | refine wpList_mapUpdate rfl 48 _ _ _ rfl (.map (some w.heap.size)) (.string x.p) (.int .i64 (cc : Int)) rfl rfl rfl w9 hup ?_)
      generalize wr.heap.size = bx at *
      have HBX := HBX9
      have HBL := Lib.hid (Array.getElem?_eq_some_iff.1 HBX9.out).1
      have HML := Lib.hid (Array.getElem?_eq_some_iff.1 HMD.out).1
      have hs5 := fun W => slice_modes bm W
      obtain ⟨nl, hnl⟩ : ∃ r, nameOk x.p.data.toList = r := ⟨_, rfl⟩
      have HNL := Lib.hid hnl
      obtain ⟨mo, hmo⟩ : ∃ r, modeOk x.k = r := ⟨_, rfl⟩
      have HMO := Lib.hid hmo
      clear hnl hmo hup hlk hcn wc hc1i HBX9
      by_cases htw : 1 < cc
      · have h1i : (1 : Int) < (cc : Int) := by omega
        have HBAD : Hid (entOk xs k x = false) := by
          show _ = _
          unfold entOk
          rw [HDUP.out, decide_eq_false (by have := HCE.out; omega)]
          simp
        clear htw
        refine wp_region_noPanic ?_
        refine wp_region_held_drew (S := fun W => W.heap[bx]? = some (.cells (entA x) 30 (0, 0)) ∧ CM W w.heap.size (keysOf xs (k + 1)) ∧ W.heap[bm]? = some (.cells modesA 49 (0, 0))) (by kernel_rfl) ?_ (fun hHeld => ?_)
        · exact ⟨HBX.out, HCM.out.block rfl, HMD.out⟩
        refine wpAnyH_take (i := 0) (v := ?_) (by simp only [List.getElem?_toArray, List.getElem?_cons_zero]; rfl) (by kernel_rfl) (by kernel_rfl) (by kernel_rfl) (fun _ _ _ h => h) (Or.inl ⟨by rfl, ?_⟩) (by assumption) ?_
        rotate_left
        · intro W hSW
          go_simp
          try with_reducible rfl
        try simp only [Act.put, List.setIfInBounds_toArray, List.set_cons_zero, List.set_cons_succ]
        refine wpAnyH_take (i := 1) (v := ?_) (by simp only [List.getElem?_toArray, List.getElem?_cons_succ, List.getElem?_cons_zero]; rfl) (by kernel_rfl) (by kernel_rfl) (by kernel_rfl) (fun _ _ _ h => h) (Or.inl ⟨by rfl, ?_⟩) (by assumption) ?_
        rotate_left
        · intro W hSW
          go_simp
          try with_reducible rfl
        try simp only [Act.put, List.setIfInBounds_toArray, List.set_cons_zero, List.set_cons_succ]
        refine wpAnyH_take (i := 2) (by simp only [List.getElem?_toArray, List.getElem?_cons_succ, List.getElem?_cons_zero]; rfl) (by kernel_rfl) (by kernel_rfl) (by kernel_rfl) (fun _ _ _ h => h) (yieldsIf_load_str (by rfl) 9 _ rfl bx 1 rfl x.p (fun W hSW => by have := range_name (row_ent hSW.1); rwa [Nat.zero_add] at this) Tryd.underlying9) (by assumption) ?_
        try simp only [Act.put, List.setIfInBounds_toArray, List.set_cons_zero, List.set_cons_succ]
        refine wpAnyH_take (i := 3) (by simp only [List.getElem?_toArray, List.getElem?_cons_succ, List.getElem?_cons_zero]; rfl) (by kernel_rfl) (by kernel_rfl) (by kernel_rfl) (fun _ _ _ h => h) (yieldsIf_lookup (by rfl) 48 _ _ false rfl (.map (some w.heap.size)) (.string x.p) rfl rfl (.int .i64 (cc : Int)) (fun W hSW => by rw [← HCC.out]; exact hSW.2.1.look strKey Tryd.underlying48 (zero_int W) str_inj x.p HKL.out)) (by assumption) ?_
        try simp only [Act.put, List.setIfInBounds_toArray, List.set_cons_zero, List.set_cons_succ]
        refine wpAnyH_take (i := 4) (v := ?_) (by simp only [List.getElem?_toArray, List.getElem?_cons_succ, List.getElem?_cons_zero]; rfl) (by kernel_rfl) (by kernel_rfl) (by kernel_rfl) (fun _ _ _ h => h) (Or.inl ⟨by rfl, ?_⟩) (by assumption) ?_
        rotate_left
        · intro W hSW
          go_simp
          try with_reducible rfl
        try simp only [Act.put, List.setIfInBounds_toArray, List.set_cons_zero, List.set_cons_succ]
        refine wpAnyH_take (i := 5) (v := ?_) (by simp only [List.getElem?_toArray, List.getElem?_cons_succ, List.getElem?_cons_zero]; rfl) (by kernel_rfl) (by kernel_rfl) (by kernel_rfl) (fun _ _ _ h => h) (Or.inl ⟨by rfl, ?_⟩) (by assumption) ?_
        rotate_left
        · intro W hSW
          go_simp
          try with_reducible rfl
        try simp only [Act.put, List.setIfInBounds_toArray, List.set_cons_zero, List.set_cons_succ]
        refine wpAnyH_take (i := 6) (v := undef) (by simp only [List.getElem?_toArray, List.getElem?_cons_succ, List.getElem?_cons_zero]; rfl) (by kernel_rfl) (by kernel_rfl) (by kernel_rfl) (fun _ _ _ h => h) (Or.inr ⟨by rfl, rfl⟩) (by assumption) ?_
        try simp only [Act.put, List.setIfInBounds_toArray, List.set_cons_zero, List.set_cons_succ]
        refine wpAnyH_take (i := 7) (v := undef) (by simp only [List.getElem?_toArray, List.getElem?_cons_succ, List.getElem?_cons_zero]; rfl) (by kernel_rfl) (by kernel_rfl) (by kernel_rfl) (fun _ _ _ h => h) (Or.inr ⟨by rfl, rfl⟩) (by assumption) ?_
        try simp only [Act.put, List.setIfInBounds_toArray, List.set_cons_zero, List.set_cons_succ]
        refine wpAnyH_take (i := 8) (v := undef) (by simp only [List.getElem?_toArray, List.getElem?_cons_succ, List.getElem?_cons_zero]; rfl) (by kernel_rfl) (by kernel_rfl) (by kernel_rfl) (fun _ _ _ h => h) (Or.inr ⟨by rfl, rfl⟩) (by assumption) ?_
        try simp only [Act.put, List.setIfInBounds_toArray, List.set_cons_zero, List.set_cons_succ]
        refine wpAnyH_take (i := 9) (v := undef) (by simp only [List.getElem?_toArray, List.getElem?_cons_succ, List.getElem?_cons_zero]; rfl) (by kernel_rfl) (by kernel_rfl) (by kernel_rfl) (fun _ _ _ h => h) (Or.inr ⟨by rfl, rfl⟩) (by assumption) ?_
        try simp only [Act.put, List.setIfInBounds_toArray, List.set_cons_zero, List.set_cons_succ]
        refine wpAnyH_take (i := 10) (v := ?_) (by simp only [List.getElem?_toArray, List.getElem?_cons_succ, List.getElem?_cons_zero]; rfl) (by kernel_rfl) (by kernel_rfl) (by kernel_rfl) (fun _ _ _ h => h) (Or.inl ⟨by rfl, ?_⟩) (by assumption) ?_
        rotate_left
        · intro W hSW
          go_simp
          try with_reducible rfl
        try simp only [Act.put, List.setIfInBounds_toArray, List.set_cons_zero, List.set_cons_succ]
        refine wpAnyH_take (i := 11) (v := ?_) (by simp only [List.getElem?_toArray, List.getElem?_cons_succ, List.getElem?_cons_zero]; rfl) (by kernel_rfl) (by kernel_rfl) (by kernel_rfl) (fun _ _ _ h => h) (Or.inl ⟨by rfl, ?_⟩) (by assumption) ?_
        rotate_left
        · intro W hSW
          go_simp
          try with_reducible rfl
        try simp only [Act.put, List.setIfInBounds_toArray, List.set_cons_zero, List.set_cons_succ]
        refine wpAnyH_take (i := 12) (v := undef) (by simp only [List.getElem?_toArray, List.getElem?_cons_succ, List.getElem?_cons_zero]; rfl) (by kernel_rfl) (by kernel_rfl) (by kernel_rfl) (fun _ _ _ h => h) (Or.inr ⟨by rfl, rfl⟩) (by assumption) ?_
        try simp only [Act.put, List.setIfInBounds_toArray, List.set_cons_zero, List.set_cons_succ]
        refine wpAnyH_take (i := 13) (v := undef) (by simp only [List.getElem?_toArray, List.getElem?_cons_succ, List.getElem?_cons_zero]; rfl) (by kernel_rfl) (by kernel_rfl) (by kernel_rfl) (fun _ _ _ h => h) (Or.inr ⟨by rfl, rfl⟩) (by assumption) ?_
        try simp only [Act.put, List.setIfInBounds_toArray, List.set_cons_zero, List.set_cons_succ]
        refine wpAnyH_take (i := 14) (v := undef) (by simp only [List.getElem?_toArray, List.getElem?_cons_succ, List.getElem?_cons_zero]; rfl) (by kernel_rfl) (by kernel_rfl) (by kernel_rfl) (fun _ _ _ h => h) (Or.inr ⟨by rfl, rfl⟩) (by assumption) ?_
        try simp only [Act.put, List.setIfInBounds_toArray, List.set_cons_zero, List.set_cons_succ]
        refine wpAnyH_take (i := 15) (v := undef) (by simp only [List.getElem?_toArray, List.getElem?_cons_succ, List.getElem?_cons_zero]; rfl) (by kernel_rfl) (by kernel_rfl) (by kernel_rfl) (fun _ _ _ h => h) (Or.inr ⟨by rfl, rfl⟩) (by assumption) ?_
        try simp only [Act.put, List.setIfInBounds_toArray, List.set_cons_zero, List.set_cons_succ]
        refine wpAnyH_take (i := 16) (v := undef) (by simp only [List.getElem?_toArray, List.getElem?_cons_succ, List.getElem?_cons_zero]; rfl) (by kernel_rfl) (by kernel_rfl) (by kernel_rfl) (fun _ _ _ h => h) (Or.inr ⟨by rfl, rfl⟩) (by assumption) ?_
        try simp only [Act.put, List.setIfInBounds_toArray, List.set_cons_zero, List.set_cons_succ]
        refine wpAnyH_take (i := 17) (v := ?_) (by simp only [List.getElem?_toArray, List.getElem?_cons_succ, List.getElem?_cons_zero]; rfl) (by kernel_rfl) (by kernel_rfl) (by kernel_rfl) (fun _ _ _ h => h) (Or.inl ⟨by rfl, ?_⟩) (by assumption) ?_
        rotate_left
        · intro W hSW
          go_simp
          try with_reducible rfl
        try simp only [Act.put, List.setIfInBounds_toArray, List.set_cons_zero, List.set_cons_succ]
        refine wpAnyH_done (by kernel_rfl) ?_ _
        refine NoPanic.normal ?_
        clear hHeld
        go_wp2_with fail
        (try simp only [Exit.inBlock, Exit.then])
        go_ret
        exact ⟨by rw [rightT_bad HP.out HBAD.out]; rfl, HB9.out.drew⟩
      · have h1i : ¬ (1 : Int) < (cc : Int) := by omega
        have HD1 : Hid (((xs.take k).all fun y => !(y.p.data.toList == x.p.data.toList)) = true) := by
          show _ = _
          rw [HDUP.out, decide_eq_true (by have := HCE.out; omega)]
        clear htw HDUP
        cases nl
        · have HBAD : Hid (entOk xs k x = false) := by show _ = _; unfold entOk; rw [HNL.out]; simp
          refine wp_region_noPanic ?_
          refine wp_region_held_drew (S := fun W => W.heap[bx]? = some (.cells (entA x) 30 (0, 0)) ∧ CM W w.heap.size (keysOf xs (k + 1)) ∧ W.heap[bm]? = some (.cells modesA 49 (0, 0))) (by kernel_rfl) ?_ (fun hHeld => ?_)
          · exact ⟨HBX.out, HCM.out.block rfl, HMD.out⟩
          refine wpAnyH_take (i := 0) (v := ?_) (by simp only [List.getElem?_toArray, List.getElem?_cons_zero]; rfl) (by kernel_rfl) (by kernel_rfl) (by kernel_rfl) (fun _ _ _ h => h) (Or.inl ⟨by rfl, ?_⟩) (by assumption) ?_
          rotate_left
          · intro W hSW
            go_simp
            try with_reducible rfl
          try simp only [Act.put, List.setIfInBounds_toArray, List.set_cons_zero, List.set_cons_succ]
          refine wpAnyH_take (i := 1) (v := ?_) (by simp only [List.getElem?_toArray, List.getElem?_cons_succ, List.getElem?_cons_zero]; rfl) (by kernel_rfl) (by kernel_rfl) (by kernel_rfl) (fun _ _ _ h => h) (Or.inl ⟨by rfl, ?_⟩) (by assumption) ?_
          rotate_left
          · intro W hSW
            go_simp
            try with_reducible rfl
          try simp only [Act.put, List.setIfInBounds_toArray, List.set_cons_zero, List.set_cons_succ]
          refine wpAnyH_take (i := 2) (by simp only [List.getElem?_toArray, List.getElem?_cons_succ, List.getElem?_cons_zero]; rfl) (by kernel_rfl) (by kernel_rfl) (by kernel_rfl) (fun _ _ _ h => h) (yieldsIf_load_str (by rfl) 9 _ rfl bx 1 rfl x.p (fun W hSW => by have := range_name (row_ent hSW.1); rwa [Nat.zero_add] at this) Tryd.underlying9) (by assumption) ?_
          try simp only [Act.put, List.setIfInBounds_toArray, List.set_cons_zero, List.set_cons_succ]
          refine wpAnyH_take (i := 3) (by simp only [List.getElem?_toArray, List.getElem?_cons_succ, List.getElem?_cons_zero]; rfl) (by kernel_rfl) (by kernel_rfl) (by kernel_rfl) (fun _ _ _ h => h) (yieldsIf_lookup (by rfl) 48 _ _ false rfl (.map (some w.heap.size)) (.string x.p) rfl rfl (.int .i64 (cc : Int)) (fun W hSW => by rw [← HCC.out]; exact hSW.2.1.look strKey Tryd.underlying48 (zero_int W) str_inj x.p HKL.out)) (by assumption) ?_
          try simp only [Act.put, List.setIfInBounds_toArray, List.set_cons_zero, List.set_cons_succ]
          refine wpAnyH_take (i := 4) (v := ?_) (by simp only [List.getElem?_toArray, List.getElem?_cons_succ, List.getElem?_cons_zero]; rfl) (by kernel_rfl) (by kernel_rfl) (by kernel_rfl) (fun _ _ _ h => h) (Or.inl ⟨by rfl, ?_⟩) (by assumption) ?_
          rotate_left
          · intro W hSW
            go_simp
            try with_reducible rfl
          try simp only [Act.put, List.setIfInBounds_toArray, List.set_cons_zero, List.set_cons_succ]
          refine wpAnyH_take (i := 5) (v := ?_) (by simp only [List.getElem?_toArray, List.getElem?_cons_succ, List.getElem?_cons_zero]; rfl) (by kernel_rfl) (by kernel_rfl) (by kernel_rfl) (fun _ _ _ h => h) (Or.inl ⟨by rfl, ?_⟩) (by assumption) ?_
          rotate_left
          · intro W hSW
            go_simp
            try with_reducible rfl
          try simp only [Act.put, List.setIfInBounds_toArray, List.set_cons_zero, List.set_cons_succ]
          refine wpAnyH_take (i := 6) (v := ?_) (by simp only [List.getElem?_toArray, List.getElem?_cons_succ, List.getElem?_cons_zero]; rfl) (by kernel_rfl) (by kernel_rfl) (by kernel_rfl) (fun _ _ _ h => h) (Or.inl ⟨by rfl, ?_⟩) (by assumption) ?_
          rotate_left
          · intro W hSW
            go_simp
            try with_reducible rfl
          try simp only [Act.put, List.setIfInBounds_toArray, List.set_cons_zero, List.set_cons_succ]
          refine wpAnyH_take (i := 7) (by simp only [List.getElem?_toArray, List.getElem?_cons_succ, List.getElem?_cons_zero]; rfl) (by kernel_rfl) (by kernel_rfl) (by kernel_rfl) (fun _ _ _ h => h) (yieldsIf_load_str (by rfl) 9 _ rfl bx 1 rfl x.p (fun W hSW => by have := range_name (row_ent hSW.1); rwa [Nat.zero_add] at this) Tryd.underlying9) (by assumption) ?_
          try simp only [Act.put, List.setIfInBounds_toArray, List.set_cons_zero, List.set_cons_succ]
          refine wpAnyH_ready (rs := [8]) (by kernel_rfl) (by simp) ?_
          refine AllReadyH.cons (by simp only [List.getElem?_toArray, List.getElem?_cons_succ, List.getElem?_cons_zero]; rfl) (fun K hK => ?_) AllReadyH.nil
          go_simp
          refine (rightName_any x.p _).mono ?_
          rintro e v1 ⟨rfl, hb⟩
          rw [HNL.out]
          have hb1 : Below w9.heap.size w9 v1 := (Below.refl _ _).drew.trans hb
          have HB1 := Lib.hid hb1
          have HBX1 := Lib.hid ((hb1.block bx HBL.out).trans HBX.out)
          have HCM1 : Hid (CM v1 w.heap.size (keysOf xs (k + 1))) := HCM.out.below hb1 HCM.out.lt
          have HMD1 := Lib.hid ((hb1.block bm HML.out).trans HMD.out)
          clear hb hb1
          go_wp2_with fail
          refine hK.out _ _ (⟨HBX1.out, HCM1.out, HMD1.out⟩) (fun hHeld2 => ?_)
          clear hK K hHeld
          have hHeld := hHeld2
          clear hHeld2
          try simp only [Act.put, List.setIfInBounds_toArray, List.set_cons_zero, List.set_cons_succ]
          refine wpAnyH_take (i := 9) (v := ?_) (by simp only [List.getElem?_toArray, List.getElem?_cons_succ, List.getElem?_cons_zero]; rfl) (by kernel_rfl) (by kernel_rfl) (by kernel_rfl) (fun _ _ _ h => h) (Or.inl ⟨by rfl, ?_⟩) (by assumption) ?_
          rotate_left
          · intro W hSW
            go_simp
            try with_reducible rfl
          try simp only [Act.put, List.setIfInBounds_toArray, List.set_cons_zero, List.set_cons_succ]
          refine wpAnyH_take (i := 10) (v := ?_) (by simp only [List.getElem?_toArray, List.getElem?_cons_succ, List.getElem?_cons_zero]; rfl) (by kernel_rfl) (by kernel_rfl) (by kernel_rfl) (fun _ _ _ h => h) (Or.inl ⟨by rfl, ?_⟩) (by assumption) ?_
          rotate_left
          · intro W hSW
            go_simp
            try with_reducible rfl
          try simp only [Act.put, List.setIfInBounds_toArray, List.set_cons_zero, List.set_cons_succ]
          refine wpAnyH_take (i := 11) (v := ?_) (by simp only [List.getElem?_toArray, List.getElem?_cons_succ, List.getElem?_cons_zero]; rfl) (by kernel_rfl) (by kernel_rfl) (by kernel_rfl) (fun _ _ _ h => h) (Or.inl ⟨by rfl, ?_⟩) (by assumption) ?_
          rotate_left
          · intro W hSW
            go_simp
            try with_reducible rfl
          try simp only [Act.put, List.setIfInBounds_toArray, List.set_cons_zero, List.set_cons_succ]
          refine wpAnyH_take (i := 12) (v := undef) (by simp only [List.getElem?_toArray, List.getElem?_cons_succ, List.getElem?_cons_zero]; rfl) (by kernel_rfl) (by kernel_rfl) (by kernel_rfl) (fun _ _ _ h => h) (Or.inr ⟨by rfl, rfl⟩) (by assumption) ?_
          try simp only [Act.put, List.setIfInBounds_toArray, List.set_cons_zero, List.set_cons_succ]
          refine wpAnyH_take (i := 13) (v := undef) (by simp only [List.getElem?_toArray, List.getElem?_cons_succ, List.getElem?_cons_zero]; rfl) (by kernel_rfl) (by kernel_rfl) (by kernel_rfl) (fun _ _ _ h => h) (Or.inr ⟨by rfl, rfl⟩) (by assumption) ?_
          try simp only [Act.put, List.setIfInBounds_toArray, List.set_cons_zero, List.set_cons_succ]
          refine wpAnyH_take (i := 14) (v := undef) (by simp only [List.getElem?_toArray, List.getElem?_cons_succ, List.getElem?_cons_zero]; rfl) (by kernel_rfl) (by kernel_rfl) (by kernel_rfl) (fun _ _ _ h => h) (Or.inr ⟨by rfl, rfl⟩) (by assumption) ?_
          try simp only [Act.put, List.setIfInBounds_toArray, List.set_cons_zero, List.set_cons_succ]
          refine wpAnyH_take (i := 15) (v := undef) (by simp only [List.getElem?_toArray, List.getElem?_cons_succ, List.getElem?_cons_zero]; rfl) (by kernel_rfl) (by kernel_rfl) (by kernel_rfl) (fun _ _ _ h => h) (Or.inr ⟨by rfl, rfl⟩) (by assumption) ?_
          try simp only [Act.put, List.setIfInBounds_toArray, List.set_cons_zero, List.set_cons_succ]
          refine wpAnyH_take (i := 16) (v := undef) (by simp only [List.getElem?_toArray, List.getElem?_cons_succ, List.getElem?_cons_zero]; rfl) (by kernel_rfl) (by kernel_rfl) (by kernel_rfl) (fun _ _ _ h => h) (Or.inr ⟨by rfl, rfl⟩) (by assumption) ?_
          try simp only [Act.put, List.setIfInBounds_toArray, List.set_cons_zero, List.set_cons_succ]
          refine wpAnyH_take (i := 17) (v := ?_) (by simp only [List.getElem?_toArray, List.getElem?_cons_succ, List.getElem?_cons_zero]; rfl) (by kernel_rfl) (by kernel_rfl) (by kernel_rfl) (fun _ _ _ h => h) (Or.inl ⟨by rfl, ?_⟩) (by assumption) ?_
          rotate_left
          · intro W hSW
            go_simp
            try with_reducible rfl
          try simp only [Act.put, List.setIfInBounds_toArray, List.set_cons_zero, List.set_cons_succ]
          refine wpAnyH_done (by kernel_rfl) ?_ _
          refine NoPanic.normal ?_
          clear hHeld
          go_wp2_with fail
          (try simp only [Exit.inBlock, Exit.then])
          go_ret
          exact ⟨by rw [rightT_bad HP.out HBAD.out]; rfl, (HB9.out.trans (HB1.out.mono HB9.out.size))⟩
        · cases mo
          · have HBAD : Hid (entOk xs k x = false) := by show _ = _; unfold entOk; rw [HMO.out]; rfl
            refine wp_region_noPanic ?_
            refine wp_region_held_drew (S := fun W => W.heap[bx]? = some (.cells (entA x) 30 (0, 0)) ∧ CM W w.heap.size (keysOf xs (k + 1)) ∧ W.heap[bm]? = some (.cells modesA 49 (0, 0))) (by kernel_rfl) ?_ (fun hHeld => ?_)
            · exact ⟨HBX.out, HCM.out.block rfl, HMD.out⟩
            refine wpAnyH_take (i := 0) (v := ?_) (by simp only [List.getElem?_toArray, List.getElem?_cons_zero]; rfl) (by kernel_rfl) (by kernel_rfl) (by kernel_rfl) (fun _ _ _ h => h) (Or.inl ⟨by rfl, ?_⟩) (by assumption) ?_
            rotate_left
            · intro W hSW
              go_simp
              try with_reducible rfl
            try simp only [Act.put, List.setIfInBounds_toArray, List.set_cons_zero, List.set_cons_succ]
            refine wpAnyH_take (i := 1) (v := ?_) (by simp only [List.getElem?_toArray, List.getElem?_cons_succ, List.getElem?_cons_zero]; rfl) (by kernel_rfl) (by kernel_rfl) (by kernel_rfl) (fun _ _ _ h => h) (Or.inl ⟨by rfl, ?_⟩) (by assumption) ?_
            rotate_left
            · intro W hSW
              go_simp
              try with_reducible rfl
            try simp only [Act.put, List.setIfInBounds_toArray, List.set_cons_zero, List.set_cons_succ]
            refine wpAnyH_take (i := 2) (by simp only [List.getElem?_toArray, List.getElem?_cons_succ, List.getElem?_cons_zero]; rfl) (by kernel_rfl) (by kernel_rfl) (by kernel_rfl) (fun _ _ _ h => h) (yieldsIf_load_str (by rfl) 9 _ rfl bx 1 rfl x.p (fun W hSW => by have := range_name (row_ent hSW.1); rwa [Nat.zero_add] at this) Tryd.underlying9) (by assumption) ?_
            try simp only [Act.put, List.setIfInBounds_toArray, List.set_cons_zero, List.set_cons_succ]
            refine wpAnyH_take (i := 3) (by simp only [List.getElem?_toArray, List.getElem?_cons_succ, List.getElem?_cons_zero]; rfl) (by kernel_rfl) (by kernel_rfl) (by kernel_rfl) (fun _ _ _ h => h) (yieldsIf_lookup (by rfl) 48 _ _ false rfl (.map (some w.heap.size)) (.string x.p) rfl rfl (.int .i64 (cc : Int)) (fun W hSW => by rw [← HCC.out]; exact hSW.2.1.look strKey Tryd.underlying48 (zero_int W) str_inj x.p HKL.out)) (by assumption) ?_
            try simp only [Act.put, List.setIfInBounds_toArray, List.set_cons_zero, List.set_cons_succ]
            refine wpAnyH_take (i := 4) (v := ?_) (by simp only [List.getElem?_toArray, List.getElem?_cons_succ, List.getElem?_cons_zero]; rfl) (by kernel_rfl) (by kernel_rfl) (by kernel_rfl) (fun _ _ _ h => h) (Or.inl ⟨by rfl, ?_⟩) (by assumption) ?_
            rotate_left
            · intro W hSW
              go_simp
              try with_reducible rfl
            try simp only [Act.put, List.setIfInBounds_toArray, List.set_cons_zero, List.set_cons_succ]
            refine wpAnyH_take (i := 5) (v := ?_) (by simp only [List.getElem?_toArray, List.getElem?_cons_succ, List.getElem?_cons_zero]; rfl) (by kernel_rfl) (by kernel_rfl) (by kernel_rfl) (fun _ _ _ h => h) (Or.inl ⟨by rfl, ?_⟩) (by assumption) ?_
            rotate_left
            · intro W hSW
              go_simp
              try with_reducible rfl
            try simp only [Act.put, List.setIfInBounds_toArray, List.set_cons_zero, List.set_cons_succ]
            refine wpAnyH_take (i := 6) (v := ?_) (by simp only [List.getElem?_toArray, List.getElem?_cons_succ, List.getElem?_cons_zero]; rfl) (by kernel_rfl) (by kernel_rfl) (by kernel_rfl) (fun _ _ _ h => h) (Or.inl ⟨by rfl, ?_⟩) (by assumption) ?_
            rotate_left
            · intro W hSW
              go_simp
              try with_reducible rfl
            try simp only [Act.put, List.setIfInBounds_toArray, List.set_cons_zero, List.set_cons_succ]
            refine wpAnyH_take (i := 7) (by simp only [List.getElem?_toArray, List.getElem?_cons_succ, List.getElem?_cons_zero]; rfl) (by kernel_rfl) (by kernel_rfl) (by kernel_rfl) (fun _ _ _ h => h) (yieldsIf_load_str (by rfl) 9 _ rfl bx 1 rfl x.p (fun W hSW => by have := range_name (row_ent hSW.1); rwa [Nat.zero_add] at this) Tryd.underlying9) (by assumption) ?_
            try simp only [Act.put, List.setIfInBounds_toArray, List.set_cons_zero, List.set_cons_succ]
            refine wpAnyH_ready (rs := [8]) (by kernel_rfl) (by simp) ?_
            refine AllReadyH.cons (by simp only [List.getElem?_toArray, List.getElem?_cons_succ, List.getElem?_cons_zero]; rfl) (fun K hK => ?_) AllReadyH.nil
            go_simp
            refine (rightName_any x.p _).mono ?_
            rintro e v1 ⟨rfl, hb⟩
            rw [HNL.out]
            have hb1 : Below w9.heap.size w9 v1 := (Below.refl _ _).drew.trans hb
            have HB1 := Lib.hid hb1
            have HBX1 := Lib.hid ((hb1.block bx HBL.out).trans HBX.out)
            have HCM1 : Hid (CM v1 w.heap.size (keysOf xs (k + 1))) := HCM.out.below hb1 HCM.out.lt
            have HMD1 := Lib.hid ((hb1.block bm HML.out).trans HMD.out)
            clear hb hb1
            go_wp2_with fail
            refine hK.out _ _ (⟨HBX1.out, HCM1.out, HMD1.out⟩) (fun hHeld2 => ?_)
            clear hK K hHeld
            have hHeld := hHeld2
            clear hHeld2
            try simp only [Act.put, List.setIfInBounds_toArray, List.set_cons_zero, List.set_cons_succ]
            refine wpAnyH_take (i := 9) (v := ?_) (by simp only [List.getElem?_toArray, List.getElem?_cons_succ, List.getElem?_cons_zero]; rfl) (by kernel_rfl) (by kernel_rfl) (by kernel_rfl) (fun _ _ _ h => h) (Or.inl ⟨by rfl, ?_⟩) (by assumption) ?_
            rotate_left
            · intro W hSW
              go_simp
              try with_reducible rfl
            try simp only [Act.put, List.setIfInBounds_toArray, List.set_cons_zero, List.set_cons_succ]
            refine wpAnyH_take (i := 10) (v := ?_) (by simp only [List.getElem?_toArray, List.getElem?_cons_succ, List.getElem?_cons_zero]; rfl) (by kernel_rfl) (by kernel_rfl) (by kernel_rfl) (fun _ _ _ h => h) (Or.inl ⟨by rfl, ?_⟩) (by assumption) ?_
            rotate_left
            · intro W hSW
              go_simp
              try with_reducible rfl
            try simp only [Act.put, List.setIfInBounds_toArray, List.set_cons_zero, List.set_cons_succ]
            refine wpAnyH_take (i := 11) (v := ?_) (by simp only [List.getElem?_toArray, List.getElem?_cons_succ, List.getElem?_cons_zero]; rfl) (by kernel_rfl) (by kernel_rfl) (by kernel_rfl) (fun _ _ _ h => h) (Or.inl ⟨by rfl, ?_⟩) (by assumption) ?_
            rotate_left
            · intro W hSW
              go_simp
              try with_reducible rfl
            try simp only [Act.put, List.setIfInBounds_toArray, List.set_cons_zero, List.set_cons_succ]
            refine wpAnyH_take (i := 12) (v := ?_) (by simp only [List.getElem?_toArray, List.getElem?_cons_succ, List.getElem?_cons_zero]; rfl) (by kernel_rfl) (by kernel_rfl) (by kernel_rfl) (fun _ _ _ h => h) (Or.inl ⟨by rfl, ?_⟩) (by assumption) ?_
            rotate_left
            · intro W hSW
              go_simp
              try with_reducible rfl
            try simp only [Act.put, List.setIfInBounds_toArray, List.set_cons_zero, List.set_cons_succ]
            refine wpAnyH_take (i := 13) (v := ?_) (by simp only [List.getElem?_toArray, List.getElem?_cons_succ, List.getElem?_cons_zero]; rfl) (by kernel_rfl) (by kernel_rfl) (by kernel_rfl) (fun _ _ _ h => h) (Or.inl ⟨by rfl, ?_⟩) (by assumption) ?_
            rotate_left
            · intro W hSW
              go_simp
              try with_reducible rfl
            try simp only [Act.put, List.setIfInBounds_toArray, List.set_cons_zero, List.set_cons_succ]
            refine wpAnyH_take (i := 14) (by simp only [List.getElem?_toArray, List.getElem?_cons_succ, List.getElem?_cons_zero]; rfl) (by kernel_rfl) (by kernel_rfl) (by kernel_rfl) (fun _ _ _ h => h) (yieldsIf_load_int (by rfl) 3 _ rfl bx 0 rfl x.k (fun W hSW => range_mode (row_ent hSW.1)) Tryd.underlying3) (by assumption) ?_
            try simp only [Act.put, List.setIfInBounds_toArray, List.set_cons_zero, List.set_cons_succ]
            refine wpAnyH_ready (rs := [15]) (by kernel_rfl) (by simp) ?_
            refine AllReadyH.cons (by simp only [List.getElem?_toArray, List.getElem?_cons_succ, List.getElem?_cons_zero]; rfl) (fun K hK => ?_) AllReadyH.nil
            go_simp
            refine (contains_modes bm x.k _ HMD1.out).mono ?_
            rintro e v2 ⟨rfl, rfl⟩
            rename World => v1
            rw [HMO.out]
            go_wp2_with fail
            refine hK.out _ _ (⟨HBX1.out, HCM1.out, HMD1.out⟩) (fun hHeld2 => ?_)
            clear hK K hHeld
            have hHeld := hHeld2
            clear hHeld2
            try simp only [Act.put, List.setIfInBounds_toArray, List.set_cons_zero, List.set_cons_succ]
            refine wpAnyH_take (i := 16) (v := ?_) (by simp only [List.getElem?_toArray, List.getElem?_cons_succ, List.getElem?_cons_zero]; rfl) (by kernel_rfl) (by kernel_rfl) (by kernel_rfl) (fun _ _ _ h => h) (Or.inl ⟨by rfl, ?_⟩) (by assumption) ?_
            rotate_left
            · intro W hSW
              go_simp
              try with_reducible rfl
            try simp only [Act.put, List.setIfInBounds_toArray, List.set_cons_zero, List.set_cons_succ]
            refine wpAnyH_take (i := 17) (v := ?_) (by simp only [List.getElem?_toArray, List.getElem?_cons_succ, List.getElem?_cons_zero]; rfl) (by kernel_rfl) (by kernel_rfl) (by kernel_rfl) (fun _ _ _ h => h) (Or.inl ⟨by rfl, ?_⟩) (by assumption) ?_
            rotate_left
            · intro W hSW
              go_simp
              try with_reducible rfl
            try simp only [Act.put, List.setIfInBounds_toArray, List.set_cons_zero, List.set_cons_succ]
            refine wpAnyH_done (by kernel_rfl) ?_ _
            refine NoPanic.normal ?_
            clear hHeld
            go_wp2_with fail
            (try simp only [Exit.inBlock, Exit.then])
            go_ret
            exact ⟨by rw [rightT_bad HP.out HBAD.out]; rfl, (HB9.out.trans (HB1.out.mono HB9.out.size))⟩
          · skip
            refine wp_region_noPanic ?_
            refine wp_region_held_drew (S := fun W => W.heap[bx]? = some (.cells (entA x) 30 (0, 0)) ∧ CM W w.heap.size (keysOf xs (k + 1)) ∧ W.heap[bm]? = some (.cells modesA 49 (0, 0))) (by kernel_rfl) ?_ (fun hHeld => ?_)
            · exact ⟨HBX.out, HCM.out.block rfl, HMD.out⟩
            refine wpAnyH_take (i := 0) (v := ?_) (by simp only [List.getElem?_toArray, List.getElem?_cons_zero]; rfl) (by kernel_rfl) (by kernel_rfl) (by kernel_rfl) (fun _ _ _ h => h) (Or.inl ⟨by rfl, ?_⟩) (by assumption) ?_
            rotate_left
            · intro W hSW
              go_simp
              try with_reducible rfl
            try simp only [Act.put, List.setIfInBounds_toArray, List.set_cons_zero, List.set_cons_succ]
            refine wpAnyH_take (i := 1) (v := ?_) (by simp only [List.getElem?_toArray, List.getElem?_cons_succ, List.getElem?_cons_zero]; rfl) (by kernel_rfl) (by kernel_rfl) (by kernel_rfl) (fun _ _ _ h => h) (Or.inl ⟨by rfl, ?_⟩) (by assumption) ?_
            rotate_left
            · intro W hSW
              go_simp
              try with_reducible rfl
            try simp only [Act.put, List.setIfInBounds_toArray, List.set_cons_zero, List.set_cons_succ]
            refine wpAnyH_take (i := 2) (by simp only [List.getElem?_toArray, List.getElem?_cons_succ, List.getElem?_cons_zero]; rfl) (by kernel_rfl) (by kernel_rfl) (by kernel_rfl) (fun _ _ _ h => h) (yieldsIf_load_str (by rfl) 9 _ rfl bx 1 rfl x.p (fun W hSW => by have := range_name (row_ent hSW.1); rwa [Nat.zero_add] at this) Tryd.underlying9) (by assumption) ?_
            try simp only [Act.put, List.setIfInBounds_toArray, List.set_cons_zero, List.set_cons_succ]
            refine wpAnyH_take (i := 3) (by simp only [List.getElem?_toArray, List.getElem?_cons_succ, List.getElem?_cons_zero]; rfl) (by kernel_rfl) (by kernel_rfl) (by kernel_rfl) (fun _ _ _ h => h) (yieldsIf_lookup (by rfl) 48 _ _ false rfl (.map (some w.heap.size)) (.string x.p) rfl rfl (.int .i64 (cc : Int)) (fun W hSW => by rw [← HCC.out]; exact hSW.2.1.look strKey Tryd.underlying48 (zero_int W) str_inj x.p HKL.out)) (by assumption) ?_
            try simp only [Act.put, List.setIfInBounds_toArray, List.set_cons_zero, List.set_cons_succ]
            refine wpAnyH_take (i := 4) (v := ?_) (by simp only [List.getElem?_toArray, List.getElem?_cons_succ, List.getElem?_cons_zero]; rfl) (by kernel_rfl) (by kernel_rfl) (by kernel_rfl) (fun _ _ _ h => h) (Or.inl ⟨by rfl, ?_⟩) (by assumption) ?_
            rotate_left
            · intro W hSW
              go_simp
              try with_reducible rfl
            try simp only [Act.put, List.setIfInBounds_toArray, List.set_cons_zero, List.set_cons_succ]
            refine wpAnyH_take (i := 5) (v := ?_) (by simp only [List.getElem?_toArray, List.getElem?_cons_succ, List.getElem?_cons_zero]; rfl) (by kernel_rfl) (by kernel_rfl) (by kernel_rfl) (fun _ _ _ h => h) (Or.inl ⟨by rfl, ?_⟩) (by assumption) ?_
            rotate_left
            · intro W hSW
              go_simp
              try with_reducible rfl
            try simp only [Act.put, List.setIfInBounds_toArray, List.set_cons_zero, List.set_cons_succ]
            refine wpAnyH_take (i := 6) (v := ?_) (by simp only [List.getElem?_toArray, List.getElem?_cons_succ, List.getElem?_cons_zero]; rfl) (by kernel_rfl) (by kernel_rfl) (by kernel_rfl) (fun _ _ _ h => h) (Or.inl ⟨by rfl, ?_⟩) (by assumption) ?_
            rotate_left
            · intro W hSW
              go_simp
              try with_reducible rfl
            try simp only [Act.put, List.setIfInBounds_toArray, List.set_cons_zero, List.set_cons_succ]
            refine wpAnyH_take (i := 7) (by simp only [List.getElem?_toArray, List.getElem?_cons_succ, List.getElem?_cons_zero]; rfl) (by kernel_rfl) (by kernel_rfl) (by kernel_rfl) (fun _ _ _ h => h) (yieldsIf_load_str (by rfl) 9 _ rfl bx 1 rfl x.p (fun W hSW => by have := range_name (row_ent hSW.1); rwa [Nat.zero_add] at this) Tryd.underlying9) (by assumption) ?_
            try simp only [Act.put, List.setIfInBounds_toArray, List.set_cons_zero, List.set_cons_succ]
            refine wpAnyH_ready (rs := [8]) (by kernel_rfl) (by simp) ?_
            refine AllReadyH.cons (by simp only [List.getElem?_toArray, List.getElem?_cons_succ, List.getElem?_cons_zero]; rfl) (fun K hK => ?_) AllReadyH.nil
            go_simp
            refine (rightName_any x.p _).mono ?_
            rintro e v1 ⟨rfl, hb⟩
            rw [HNL.out]
            have hb1 : Below w9.heap.size w9 v1 := (Below.refl _ _).drew.trans hb
            have HB1 := Lib.hid hb1
            have HBX1 := Lib.hid ((hb1.block bx HBL.out).trans HBX.out)
            have HCM1 : Hid (CM v1 w.heap.size (keysOf xs (k + 1))) := HCM.out.below hb1 HCM.out.lt
            have HMD1 := Lib.hid ((hb1.block bm HML.out).trans HMD.out)
            clear hb hb1
            go_wp2_with fail
            refine hK.out _ _ (⟨HBX1.out, HCM1.out, HMD1.out⟩) (fun hHeld2 => ?_)
            clear hK K hHeld
            have hHeld := hHeld2
            clear hHeld2
            try simp only [Act.put, List.setIfInBounds_toArray, List.set_cons_zero, List.set_cons_succ]
            refine wpAnyH_take (i := 9) (v := ?_) (by simp only [List.getElem?_toArray, List.getElem?_cons_succ, List.getElem?_cons_zero]; rfl) (by kernel_rfl) (by kernel_rfl) (by kernel_rfl) (fun _ _ _ h => h) (Or.inl ⟨by rfl, ?_⟩) (by assumption) ?_
            rotate_left
            · intro W hSW
              go_simp
              try with_reducible rfl
            try simp only [Act.put, List.setIfInBounds_toArray, List.set_cons_zero, List.set_cons_succ]
            refine wpAnyH_take (i := 10) (v := ?_) (by simp only [List.getElem?_toArray, List.getElem?_cons_succ, List.getElem?_cons_zero]; rfl) (by kernel_rfl) (by kernel_rfl) (by kernel_rfl) (fun _ _ _ h => h) (Or.inl ⟨by rfl, ?_⟩) (by assumption) ?_
            rotate_left
            · intro W hSW
              go_simp
              try with_reducible rfl
            try simp only [Act.put, List.setIfInBounds_toArray, List.set_cons_zero, List.set_cons_succ]
            refine wpAnyH_take (i := 11) (v := ?_) (by simp only [List.getElem?_toArray, List.getElem?_cons_succ, List.getElem?_cons_zero]; rfl) (by kernel_rfl) (by kernel_rfl) (by kernel_rfl) (fun _ _ _ h => h) (Or.inl ⟨by rfl, ?_⟩) (by assumption) ?_
            rotate_left
            · intro W hSW
              go_simp
              try with_reducible rfl
            try simp only [Act.put, List.setIfInBounds_toArray, List.set_cons_zero, List.set_cons_succ]
            refine wpAnyH_take (i := 12) (v := ?_) (by simp only [List.getElem?_toArray, List.getElem?_cons_succ, List.getElem?_cons_zero]; rfl) (by kernel_rfl) (by kernel_rfl) (by kernel_rfl) (fun _ _ _ h => h) (Or.inl ⟨by rfl, ?_⟩) (by assumption) ?_
            rotate_left
            · intro W hSW
              go_simp
              try with_reducible rfl
            try simp only [Act.put, List.setIfInBounds_toArray, List.set_cons_zero, List.set_cons_succ]
            refine wpAnyH_take (i := 13) (v := ?_) (by simp only [List.getElem?_toArray, List.getElem?_cons_succ, List.getElem?_cons_zero]; rfl) (by kernel_rfl) (by kernel_rfl) (by kernel_rfl) (fun _ _ _ h => h) (Or.inl ⟨by rfl, ?_⟩) (by assumption) ?_
            rotate_left
            · intro W hSW
              go_simp
              try with_reducible rfl
            try simp only [Act.put, List.setIfInBounds_toArray, List.set_cons_zero, List.set_cons_succ]
            refine wpAnyH_take (i := 14) (by simp only [List.getElem?_toArray, List.getElem?_cons_succ, List.getElem?_cons_zero]; rfl) (by kernel_rfl) (by kernel_rfl) (by kernel_rfl) (fun _ _ _ h => h) (yieldsIf_load_int (by rfl) 3 _ rfl bx 0 rfl x.k (fun W hSW => range_mode (row_ent hSW.1)) Tryd.underlying3) (by assumption) ?_
            try simp only [Act.put, List.setIfInBounds_toArray, List.set_cons_zero, List.set_cons_succ]
            refine wpAnyH_ready (rs := [15]) (by kernel_rfl) (by simp) ?_
            refine AllReadyH.cons (by simp only [List.getElem?_toArray, List.getElem?_cons_succ, List.getElem?_cons_zero]; rfl) (fun K hK => ?_) AllReadyH.nil
            go_simp
            refine (contains_modes bm x.k _ HMD1.out).mono ?_
            rintro e v2 ⟨rfl, rfl⟩
            rename World => v1
            rw [HMO.out]
            go_wp2_with fail
            refine hK.out _ _ (⟨HBX1.out, HCM1.out, HMD1.out⟩) (fun hHeld2 => ?_)
            clear hK K hHeld
            have hHeld := hHeld2
            clear hHeld2
            try simp only [Act.put, List.setIfInBounds_toArray, List.set_cons_zero, List.set_cons_succ]
            refine wpAnyH_take (i := 16) (v := ?_) (by simp only [List.getElem?_toArray, List.getElem?_cons_succ, List.getElem?_cons_zero]; rfl) (by kernel_rfl) (by kernel_rfl) (by kernel_rfl) (fun _ _ _ h => h) (Or.inl ⟨by rfl, ?_⟩) (by assumption) ?_
            rotate_left
            · intro W hSW
              go_simp
              try with_reducible rfl
            try simp only [Act.put, List.setIfInBounds_toArray, List.set_cons_zero, List.set_cons_succ]
            refine wpAnyH_take (i := 17) (v := ?_) (by simp only [List.getElem?_toArray, List.getElem?_cons_succ, List.getElem?_cons_zero]; rfl) (by kernel_rfl) (by kernel_rfl) (by kernel_rfl) (fun _ _ _ h => h) (Or.inl ⟨by rfl, ?_⟩) (by assumption) ?_
            rotate_left
            · intro W hSW
              go_simp
              try with_reducible rfl
            try simp only [Act.put, List.setIfInBounds_toArray, List.set_cons_zero, List.set_cons_succ]
            refine wpAnyH_done (by kernel_rfl) ?_ _
            refine NoPanic.normal ?_
            clear hHeld hs5 h1i
            go_wp2_with fail
            have HBL1 := Lib.hid (Array.getElem?_eq_some_iff.1 HBX1.out).1
            have HML1 := Lib.hid (Array.getElem?_eq_some_iff.1 HMD1.out).1
            have HBV := Lib.hid (HB9.out.trans (HB1.out.mono HB9.out.size))
            by_cases hk0 : k = 0
            · have HGOOD : Hid (entOk xs k x = true) := by show _ = _; unfold entOk; rw [HMO.out, HNL.out, HD1.out, hk0]; rfl
              have hgt : ¬ (0 : Int) < (k : Int) := by omega
              have hgt2 : ¬ 0 < k := by omega
              clear hk0
              refine wp_region_noPanic ?_
              refine wp_region_held_drew (S := fun W => W.heap[bx]? = some (.cells (entA x) 30 (0, 0))) (by kernel_rfl) ?_ (fun hHeld => ?_)
              · exact HBX1.out
              refine wpAnyH_take (i := 0) (v := ?_) (by simp only [List.getElem?_toArray, List.getElem?_cons_zero]; rfl) (by kernel_rfl) (by kernel_rfl) (by kernel_rfl) (fun _ _ _ h => h) (Or.inl ⟨by rfl, ?_⟩) (by assumption) ?_
              rotate_left
              · intro W hSW
                go_simp
                try with_reducible rfl
              try simp only [Act.put, List.setIfInBounds_toArray, List.set_cons_zero, List.set_cons_succ]
              refine wpAnyH_take (i := 1) (v := ?_) (by simp only [List.getElem?_toArray, List.getElem?_cons_succ, List.getElem?_cons_zero]; rfl) (by kernel_rfl) (by kernel_rfl) (by kernel_rfl) (fun _ _ _ h => h) (Or.inl ⟨by rfl, ?_⟩) (by assumption) ?_
              rotate_left
              · intro W hSW
                go_simp
                try with_reducible rfl
              try simp only [Act.put, List.setIfInBounds_toArray, List.set_cons_zero, List.set_cons_succ]
              refine wpAnyH_take (i := 2) (v := ?_) (by simp only [List.getElem?_toArray, List.getElem?_cons_succ, List.getElem?_cons_zero]; rfl) (by kernel_rfl) (by kernel_rfl) (by kernel_rfl) (fun _ _ _ h => h) (Or.inl ⟨by rfl, ?_⟩) (by assumption) ?_
              rotate_left
              · intro W hSW
                go_simp
                try with_reducible rfl
              try simp only [Act.put, List.setIfInBounds_toArray, List.set_cons_zero, List.set_cons_succ]
              refine wpAnyH_take (i := 3) (v := undef) (by simp only [List.getElem?_toArray, List.getElem?_cons_succ, List.getElem?_cons_zero]; rfl) (by kernel_rfl) (by kernel_rfl) (by kernel_rfl) (fun _ _ _ h => h) (Or.inr ⟨by rfl, rfl⟩) (by assumption) ?_
              try simp only [Act.put, List.setIfInBounds_toArray, List.set_cons_zero, List.set_cons_succ]
              refine wpAnyH_take (i := 4) (v := undef) (by simp only [List.getElem?_toArray, List.getElem?_cons_succ, List.getElem?_cons_zero]; rfl) (by kernel_rfl) (by kernel_rfl) (by kernel_rfl) (fun _ _ _ h => h) (Or.inr ⟨by rfl, rfl⟩) (by assumption) ?_
              try simp only [Act.put, List.setIfInBounds_toArray, List.set_cons_zero, List.set_cons_succ]
              refine wpAnyH_take (i := 5) (v := undef) (by simp only [List.getElem?_toArray, List.getElem?_cons_succ, List.getElem?_cons_zero]; rfl) (by kernel_rfl) (by kernel_rfl) (by kernel_rfl) (fun _ _ _ h => h) (Or.inr ⟨by rfl, rfl⟩) (by assumption) ?_
              try simp only [Act.put, List.setIfInBounds_toArray, List.set_cons_zero, List.set_cons_succ]
              refine wpAnyH_take (i := 6) (v := undef) (by simp only [List.getElem?_toArray, List.getElem?_cons_succ, List.getElem?_cons_zero]; rfl) (by kernel_rfl) (by kernel_rfl) (by kernel_rfl) (fun _ _ _ h => h) (Or.inr ⟨by rfl, rfl⟩) (by assumption) ?_
              try simp only [Act.put, List.setIfInBounds_toArray, List.set_cons_zero, List.set_cons_succ]
              refine wpAnyH_take (i := 7) (v := undef) (by simp only [List.getElem?_toArray, List.getElem?_cons_succ, List.getElem?_cons_zero]; rfl) (by kernel_rfl) (by kernel_rfl) (by kernel_rfl) (fun _ _ _ h => h) (Or.inr ⟨by rfl, rfl⟩) (by assumption) ?_
              try simp only [Act.put, List.setIfInBounds_toArray, List.set_cons_zero, List.set_cons_succ]
              refine wpAnyH_take (i := 8) (v := undef) (by simp only [List.getElem?_toArray, List.getElem?_cons_succ, List.getElem?_cons_zero]; rfl) (by kernel_rfl) (by kernel_rfl) (by kernel_rfl) (fun _ _ _ h => h) (Or.inr ⟨by rfl, rfl⟩) (by assumption) ?_
              try simp only [Act.put, List.setIfInBounds_toArray, List.set_cons_zero, List.set_cons_succ]
              refine wpAnyH_take (i := 9) (v := undef) (by simp only [List.getElem?_toArray, List.getElem?_cons_succ, List.getElem?_cons_zero]; rfl) (by kernel_rfl) (by kernel_rfl) (by kernel_rfl) (fun _ _ _ h => h) (Or.inr ⟨by rfl, rfl⟩) (by assumption) ?_
              try simp only [Act.put, List.setIfInBounds_toArray, List.set_cons_zero, List.set_cons_succ]
              refine wpAnyH_take (i := 10) (v := undef) (by simp only [List.getElem?_toArray, List.getElem?_cons_succ, List.getElem?_cons_zero]; rfl) (by kernel_rfl) (by kernel_rfl) (by kernel_rfl) (fun _ _ _ h => h) (Or.inr ⟨by rfl, rfl⟩) (by assumption) ?_
              try simp only [Act.put, List.setIfInBounds_toArray, List.set_cons_zero, List.set_cons_succ]
              refine wpAnyH_take (i := 11) (v := ?_) (by simp only [List.getElem?_toArray, List.getElem?_cons_succ, List.getElem?_cons_zero]; rfl) (by kernel_rfl) (by kernel_rfl) (by kernel_rfl) (fun _ _ _ h => h) (Or.inl ⟨by rfl, ?_⟩) (by assumption) ?_
              rotate_left
              · intro W hSW
                go_simp
                try with_reducible rfl
              try simp only [Act.put, List.setIfInBounds_toArray, List.set_cons_zero, List.set_cons_succ]
              refine wpAnyH_done (by kernel_rfl) ?_ _
              refine NoPanic.normal ?_
              clear hgt hgt2
              clear hHeld
              have HRM : Hid (∀ i x', i < k + 1 → xs[i]? = some x' → entOk xs i x' = true) := fun i x' hi hx' => by
                by_cases hik : i = k
                · subst hik
                  rw [HP.out] at hx'
                  injection hx' with hx'
                  subst hx'
                  exact HGOOD.out
                · exact HOK.out i x' (by omega) hx'
              go_wp2_with fail
              exact ⟨⟨k + 1, by have := HKN.out; omega, by first | rw [WK.out _ rfl] | rfl, HCM1.out.block rfl, HMD1.out, HBV.out.drew, HRM.out⟩, by have := HKN.out; (first | rw [WK.out _ rfl] | skip); simp [intOf]; omega⟩
            · obtain ⟨j, hj⟩ : ∃ j, k = j + 1 := ⟨k - 1, by omega⟩
              obtain ⟨y, hy⟩ : ∃ y, xs[j]? = some y := ⟨_, List.getElem?_eq_getElem (by have := HKN.out; rw [HN.out]; omega)⟩
              have hy20 := H.out.each y (List.mem_of_getElem? hy)
              have HIY := Lib.hid (ent_infoL y hy20)
              have HYK : Hid (∀ W, Below v1.heap.size v1 W → W.rangeAt b (off + j * 22) (entL y)) := fun W hW => HYK0.out j y hy W (HBV.out.trans (hW.mono HBV.out.size))
              have HCY0 := fun W => compare_any y x hy20 (HPS.out y (List.mem_of_getElem? hy)) H20.out HPX.out W
              obtain ⟨cv, hcv⟩ : ∃ v, Lib.compareBytes (keyT y) (keyT x) = v := ⟨_, rfl⟩
              have HOKB : Hid (entOk xs k x = decide (cv < 0)) := by show _ = _; unfold entOk; rw [HMO.out, HNL.out, HD1.out, hj]; simp only [hy]; unfold ltB; rw [hcv]; rfl
              rw [hcv] at HCY0
              have HCY := Lib.hid HCY0
              have hsub : IntKind.i64.wrap ((k : Int) - 1) = (j : Int) := by
                rw [show ((k : Int) - 1) = (j : Int) by omega]
                exact IntWalk.i64_in _ (by have := HNB.out; have := HKN.out; omega)
              have hgt : (0 : Int) < (k : Int) := by omega
              have hgt2 : 0 < k := by omega
              have hjn : (j : Int) < (n : Int) := by have := HKN.out; omega
              have hj0 : ¬ (j : Int) < 0 := by omega
              clear hy hy20 hcv HCY0 hj hk0
              by_cases hneg : cv < 0
              · have hge : ¬ (0 : Int) ≤ cv := by omega
                have HGOOD : Hid (entOk xs k x = true) := by show _ = _; rw [HOKB.out, decide_eq_true hneg]
                refine wp_region_noPanic ?_
                refine wp_region_held_drew (S := fun W => W.heap[bx]? = some (.cells (entA x) 30 (0, 0)) ∧ W.rangeAt b (off + j * 22) (entL y)) (by kernel_rfl) ?_ (fun hHeld => ?_)
                · exact ⟨HBX1.out, HYK.out _ (Below.refl _ _).drew⟩
                refine wpAnyH_take (i := 0) (v := ?_) (by simp only [List.getElem?_toArray, List.getElem?_cons_zero]; rfl) (by kernel_rfl) (by kernel_rfl) (by kernel_rfl) (fun _ _ _ h => h) (Or.inl ⟨by rfl, ?_⟩) (by assumption) ?_
                rotate_left
                · intro W hSW
                  go_simp
                  try with_reducible rfl
                try simp only [Act.put, List.setIfInBounds_toArray, List.set_cons_zero, List.set_cons_succ]
                refine wpAnyH_take (i := 1) (v := ?_) (by simp only [List.getElem?_toArray, List.getElem?_cons_succ, List.getElem?_cons_zero]; rfl) (by kernel_rfl) (by kernel_rfl) (by kernel_rfl) (fun _ _ _ h => h) (Or.inl ⟨by rfl, ?_⟩) (by assumption) ?_
                rotate_left
                · intro W hSW
                  go_simp
                  try with_reducible rfl
                try simp only [Act.put, List.setIfInBounds_toArray, List.set_cons_zero, List.set_cons_succ]
                refine wpAnyH_take (i := 2) (v := ?_) (by simp only [List.getElem?_toArray, List.getElem?_cons_succ, List.getElem?_cons_zero]; rfl) (by kernel_rfl) (by kernel_rfl) (by kernel_rfl) (fun _ _ _ h => h) (Or.inl ⟨by rfl, ?_⟩) (by assumption) ?_
                rotate_left
                · intro W hSW
                  go_simp
                  try with_reducible rfl
                try simp only [Act.put, List.setIfInBounds_toArray, List.set_cons_zero, List.set_cons_succ]
                refine wpAnyH_take (i := 3) (v := ?_) (by simp only [List.getElem?_toArray, List.getElem?_cons_succ, List.getElem?_cons_zero]; rfl) (by kernel_rfl) (by kernel_rfl) (by kernel_rfl) (fun _ _ _ h => h) (Or.inl ⟨by rfl, ?_⟩) (by assumption) ?_
                rotate_left
                · intro W hSW
                  go_simp
                  try with_reducible rfl
                try simp only [Act.put, List.setIfInBounds_toArray, List.set_cons_zero, List.set_cons_succ]
                refine wpAnyH_take (i := 4) (v := ?_) (by simp only [List.getElem?_toArray, List.getElem?_cons_succ, List.getElem?_cons_zero]; rfl) (by kernel_rfl) (by kernel_rfl) (by kernel_rfl) (fun _ _ _ h => h) (Or.inl ⟨by rfl, ?_⟩) (by assumption) ?_
                rotate_left
                · intro W hSW
                  go_simp
                  try with_reducible rfl
                try simp only [Act.put, List.setIfInBounds_toArray, List.set_cons_zero, List.set_cons_succ]
                refine wpAnyH_take (i := 5) (v := ?_) (by simp only [List.getElem?_toArray, List.getElem?_cons_succ, List.getElem?_cons_zero]; rfl) (by kernel_rfl) (by kernel_rfl) (by kernel_rfl) (fun _ _ _ h => h) (Or.inl ⟨by rfl, ?_⟩) (by assumption) ?_
                rotate_left
                · intro W hSW
                  go_simp
                  try with_reducible rfl
                try simp only [Act.put, List.setIfInBounds_toArray, List.set_cons_zero, List.set_cons_succ]
                refine wpAnyH_take (i := 6) (v := ?_) (by simp only [List.getElem?_toArray, List.getElem?_cons_succ, List.getElem?_cons_zero]; rfl) (by kernel_rfl) (by kernel_rfl) (by kernel_rfl) (fun _ _ _ h => h) (Or.inl ⟨by rfl, ?_⟩) (by assumption) ?_
                rotate_left
                · intro W hSW
                  go_simp
                  try with_reducible rfl
                try simp only [Act.put, List.setIfInBounds_toArray, List.set_cons_zero, List.set_cons_succ]
                refine wpAnyH_take (i := 7) (by simp only [List.getElem?_toArray, List.getElem?_cons_succ, List.getElem?_cons_zero]; rfl) (by kernel_rfl) (by kernel_rfl) (by kernel_rfl) (fun _ _ _ h => h) (yieldsIf_load_mid (by rfl) 30 _ rfl b (off + j * 22) rfl (entL y) _ (fun W hSW => hSW.2) Tryd.underlying30 rfl HIY.out) (by assumption) ?_
                try simp only [Act.put, List.setIfInBounds_toArray, List.set_cons_zero, List.set_cons_succ]
                refine wpAnyH_take (i := 8) (by simp only [List.getElem?_toArray, List.getElem?_cons_succ, List.getElem?_cons_zero]; rfl) (by kernel_rfl) (by kernel_rfl) (by kernel_rfl) (fun _ _ _ h => h) (yieldsIf_load_mid (by rfl) 30 _ rfl bx 0 rfl (entL x) _ (fun W hSW => row_ent hSW.1) Tryd.underlying30 rfl HL.out) (by assumption) ?_
                try simp only [Act.put, List.setIfInBounds_toArray, List.set_cons_zero, List.set_cons_succ]
                refine wpAnyH_ready (rs := [9]) (by kernel_rfl) (by simp) ?_
                refine AllReadyH.cons (by simp only [List.getElem?_toArray, List.getElem?_cons_succ, List.getElem?_cons_zero]; rfl) (fun K hK => ?_) AllReadyH.nil
                go_simp
                refine (HCY.out _).mono ?_
                rintro e v3 ⟨rfl, hb⟩
                have hb3 : Below v1.heap.size v1 v3 := (Below.refl _ _).drew.trans hb
                have HB3 := Lib.hid hb3
                have HBX3 := Lib.hid ((hb3.block bx HBL1.out).trans HBX1.out)
                clear hb hb3
                go_wp2_with fail
                refine hK.out _ _ (⟨HBX3.out, HYK.out v3 HB3.out⟩) (fun hHeld2 => ?_)
                clear hK K hHeld
                have hHeld := hHeld2
                clear hHeld2
                try simp only [Act.put, List.setIfInBounds_toArray, List.set_cons_zero, List.set_cons_succ]
                refine wpAnyH_take (i := 10) (v := ?_) (by simp only [List.getElem?_toArray, List.getElem?_cons_succ, List.getElem?_cons_zero]; rfl) (by kernel_rfl) (by kernel_rfl) (by kernel_rfl) (fun _ _ _ h => h) (Or.inl ⟨by rfl, ?_⟩) (by assumption) ?_
                rotate_left
                · intro W hSW
                  go_simp
                  try with_reducible rfl
                try simp only [Act.put, List.setIfInBounds_toArray, List.set_cons_zero, List.set_cons_succ]
                refine wpAnyH_take (i := 11) (v := ?_) (by simp only [List.getElem?_toArray, List.getElem?_cons_succ, List.getElem?_cons_zero]; rfl) (by kernel_rfl) (by kernel_rfl) (by kernel_rfl) (fun _ _ _ h => h) (Or.inl ⟨by rfl, ?_⟩) (by assumption) ?_
                rotate_left
                · intro W hSW
                  go_simp
                  try with_reducible rfl
                try simp only [Act.put, List.setIfInBounds_toArray, List.set_cons_zero, List.set_cons_succ]
                refine wpAnyH_done (by kernel_rfl) ?_ _
                refine NoPanic.normal ?_
                clear hsub hgt hgt2 hjn hj0
                clear hHeld
                have HRM : Hid (∀ i x', i < k + 1 → xs[i]? = some x' → entOk xs i x' = true) := fun i x' hi hx' => by
                  by_cases hik : i = k
                  · subst hik
                    rw [HP.out] at hx'
                    injection hx' with hx'
                    subst hx'
                    exact HGOOD.out
                  · exact HOK.out i x' (by omega) hx'
                go_wp2_with fail
                exact ⟨⟨k + 1, by have := HKN.out; omega, by first | rw [WK.out _ rfl] | rfl, HCM1.out.below HB3.out HCM1.out.lt, (HB3.out.block bm HML1.out).trans HMD1.out, HBV.out.trans (HB3.out.mono HBV.out.size), HRM.out⟩, by have := HKN.out; (first | rw [WK.out _ rfl] | skip); simp [intOf]; omega⟩
              · have hge : (0 : Int) ≤ cv := by omega
                have HBAD : Hid (entOk xs k x = false) := by show _ = _; rw [HOKB.out, decide_eq_false hneg]
                refine wp_region_noPanic ?_
                refine wp_region_held_drew (S := fun W => W.heap[bx]? = some (.cells (entA x) 30 (0, 0)) ∧ W.rangeAt b (off + j * 22) (entL y)) (by kernel_rfl) ?_ (fun hHeld => ?_)
                · exact ⟨HBX1.out, HYK.out _ (Below.refl _ _).drew⟩
                refine wpAnyH_take (i := 0) (v := ?_) (by simp only [List.getElem?_toArray, List.getElem?_cons_zero]; rfl) (by kernel_rfl) (by kernel_rfl) (by kernel_rfl) (fun _ _ _ h => h) (Or.inl ⟨by rfl, ?_⟩) (by assumption) ?_
                rotate_left
                · intro W hSW
                  go_simp
                  try with_reducible rfl
                try simp only [Act.put, List.setIfInBounds_toArray, List.set_cons_zero, List.set_cons_succ]
                refine wpAnyH_take (i := 1) (v := ?_) (by simp only [List.getElem?_toArray, List.getElem?_cons_succ, List.getElem?_cons_zero]; rfl) (by kernel_rfl) (by kernel_rfl) (by kernel_rfl) (fun _ _ _ h => h) (Or.inl ⟨by rfl, ?_⟩) (by assumption) ?_
                rotate_left
                · intro W hSW
                  go_simp
                  try with_reducible rfl
                try simp only [Act.put, List.setIfInBounds_toArray, List.set_cons_zero, List.set_cons_succ]
                refine wpAnyH_take (i := 2) (v := ?_) (by simp only [List.getElem?_toArray, List.getElem?_cons_succ, List.getElem?_cons_zero]; rfl) (by kernel_rfl) (by kernel_rfl) (by kernel_rfl) (fun _ _ _ h => h) (Or.inl ⟨by rfl, ?_⟩) (by assumption) ?_
                rotate_left
                · intro W hSW
                  go_simp
                  try with_reducible rfl
                try simp only [Act.put, List.setIfInBounds_toArray, List.set_cons_zero, List.set_cons_succ]
                refine wpAnyH_take (i := 3) (v := ?_) (by simp only [List.getElem?_toArray, List.getElem?_cons_succ, List.getElem?_cons_zero]; rfl) (by kernel_rfl) (by kernel_rfl) (by kernel_rfl) (fun _ _ _ h => h) (Or.inl ⟨by rfl, ?_⟩) (by assumption) ?_
                rotate_left
                · intro W hSW
                  go_simp
                  try with_reducible rfl
                try simp only [Act.put, List.setIfInBounds_toArray, List.set_cons_zero, List.set_cons_succ]
                refine wpAnyH_take (i := 4) (v := ?_) (by simp only [List.getElem?_toArray, List.getElem?_cons_succ, List.getElem?_cons_zero]; rfl) (by kernel_rfl) (by kernel_rfl) (by kernel_rfl) (fun _ _ _ h => h) (Or.inl ⟨by rfl, ?_⟩) (by assumption) ?_
                rotate_left
                · intro W hSW
                  go_simp
                  try with_reducible rfl
                try simp only [Act.put, List.setIfInBounds_toArray, List.set_cons_zero, List.set_cons_succ]
                refine wpAnyH_take (i := 5) (v := ?_) (by simp only [List.getElem?_toArray, List.getElem?_cons_succ, List.getElem?_cons_zero]; rfl) (by kernel_rfl) (by kernel_rfl) (by kernel_rfl) (fun _ _ _ h => h) (Or.inl ⟨by rfl, ?_⟩) (by assumption) ?_
                rotate_left
                · intro W hSW
                  go_simp
                  try with_reducible rfl
                try simp only [Act.put, List.setIfInBounds_toArray, List.set_cons_zero, List.set_cons_succ]
                refine wpAnyH_take (i := 6) (v := ?_) (by simp only [List.getElem?_toArray, List.getElem?_cons_succ, List.getElem?_cons_zero]; rfl) (by kernel_rfl) (by kernel_rfl) (by kernel_rfl) (fun _ _ _ h => h) (Or.inl ⟨by rfl, ?_⟩) (by assumption) ?_
                rotate_left
                · intro W hSW
                  go_simp
                  try with_reducible rfl
                try simp only [Act.put, List.setIfInBounds_toArray, List.set_cons_zero, List.set_cons_succ]
                refine wpAnyH_take (i := 7) (by simp only [List.getElem?_toArray, List.getElem?_cons_succ, List.getElem?_cons_zero]; rfl) (by kernel_rfl) (by kernel_rfl) (by kernel_rfl) (fun _ _ _ h => h) (yieldsIf_load_mid (by rfl) 30 _ rfl b (off + j * 22) rfl (entL y) _ (fun W hSW => hSW.2) Tryd.underlying30 rfl HIY.out) (by assumption) ?_
                try simp only [Act.put, List.setIfInBounds_toArray, List.set_cons_zero, List.set_cons_succ]
                refine wpAnyH_take (i := 8) (by simp only [List.getElem?_toArray, List.getElem?_cons_succ, List.getElem?_cons_zero]; rfl) (by kernel_rfl) (by kernel_rfl) (by kernel_rfl) (fun _ _ _ h => h) (yieldsIf_load_mid (by rfl) 30 _ rfl bx 0 rfl (entL x) _ (fun W hSW => row_ent hSW.1) Tryd.underlying30 rfl HL.out) (by assumption) ?_
                try simp only [Act.put, List.setIfInBounds_toArray, List.set_cons_zero, List.set_cons_succ]
                refine wpAnyH_ready (rs := [9]) (by kernel_rfl) (by simp) ?_
                refine AllReadyH.cons (by simp only [List.getElem?_toArray, List.getElem?_cons_succ, List.getElem?_cons_zero]; rfl) (fun K hK => ?_) AllReadyH.nil
                go_simp
                refine (HCY.out _).mono ?_
                rintro e v3 ⟨rfl, hb⟩
                have hb3 : Below v1.heap.size v1 v3 := (Below.refl _ _).drew.trans hb
                have HB3 := Lib.hid hb3
                have HBX3 := Lib.hid ((hb3.block bx HBL1.out).trans HBX1.out)
                clear hb hb3
                go_wp2_with fail
                refine hK.out _ _ (⟨HBX3.out, HYK.out v3 HB3.out⟩) (fun hHeld2 => ?_)
                clear hK K hHeld
                have hHeld := hHeld2
                clear hHeld2
                try simp only [Act.put, List.setIfInBounds_toArray, List.set_cons_zero, List.set_cons_succ]
                refine wpAnyH_take (i := 10) (v := ?_) (by simp only [List.getElem?_toArray, List.getElem?_cons_succ, List.getElem?_cons_zero]; rfl) (by kernel_rfl) (by kernel_rfl) (by kernel_rfl) (fun _ _ _ h => h) (Or.inl ⟨by rfl, ?_⟩) (by assumption) ?_
                rotate_left
                · intro W hSW
                  go_simp
                  try with_reducible rfl
                try simp only [Act.put, List.setIfInBounds_toArray, List.set_cons_zero, List.set_cons_succ]
                refine wpAnyH_take (i := 11) (v := ?_) (by simp only [List.getElem?_toArray, List.getElem?_cons_succ, List.getElem?_cons_zero]; rfl) (by kernel_rfl) (by kernel_rfl) (by kernel_rfl) (fun _ _ _ h => h) (Or.inl ⟨by rfl, ?_⟩) (by assumption) ?_
                rotate_left
                · intro W hSW
                  go_simp
                  try with_reducible rfl
                try simp only [Act.put, List.setIfInBounds_toArray, List.set_cons_zero, List.set_cons_succ]
                refine wpAnyH_done (by kernel_rfl) ?_ _
                refine NoPanic.normal ?_
                clear hsub hgt hgt2 hjn hj0
                clear hHeld
                go_wp2_with fail
                (try simp only [Exit.inBlock, Exit.then])
                go_ret
                exact ⟨by rw [rightT_bad HP.out HBAD.out]; rfl, HBV.out.trans (HB3.out.mono HBV.out.size)⟩
end Go.Proofs.YthemolkmciofaaaDoor
