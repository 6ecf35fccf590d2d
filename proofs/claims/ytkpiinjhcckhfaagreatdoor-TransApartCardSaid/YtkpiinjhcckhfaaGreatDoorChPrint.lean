/- change.Print: the walk. -/
import Derived.Test.YtkpiinjhcckhfaaGreatDoorChExts
namespace Go.Proofs.YtkpiinjhcckhfaaGreatDoor
open Go.RowKit Go.Shelf Plain
set_option linter.unusedVariables false
set_option linter.unusedSimpArgs false
def ChTiny (c : CX) : Prop := c.u.size ≤ 18001 ∧ c.d.size ≤ 18001 ∧ c.xs.length ≤ 18001 ∧ c.fs.length ≤ 18001 ∧ (∀ x ∈ c.xs, x.1.size ≤ 18001 ∧ x.2.size ≤ 18001) ∧ (∀ p ∈ c.fs, p.size ≤ 18001) ∧ (-9223372036854775808 ≤ c.t ∧ c.t ≤ 9223372036854775807) ∧ (-9223372036854775808 ≤ c.z ∧ c.z ≤ 9223372036854775807)
theorem ChTiny.small {c : CX} (h : ChTiny c) : ChSmall c := by
  obtain ⟨h1, h2, h3, h4, h5, h6, h7, h8⟩ := h
  exact ⟨by omega, by omega, by omega, by omega, fun x hx => by have := h5 x hx; omega, fun p hp => by have := h6 p hp; omega, h7, h8⟩
theorem nDigits_le (u : Nat) (h : u < 18446744073709551616) : Lib.nDigits u ≤ 20 := by
  by_cases h0 : u = 0
  · subst h0; rw [Lib.nDigits_small (by omega)]; omega
  · obtain ⟨h1, h2⟩ := Lib.numDigits_eq u (by omega) h
    rw [← h1]
    split <;> omega
theorem itoa_len (n : Int) (h : -9223372036854775808 ≤ n ∧ n ≤ 9223372036854775807) : (Lib.itoa n).length ≤ 21 := by
  unfold Lib.itoa
  split
  · rw [List.length_cons, Lib.decDigits_length]
    have := nDigits_le n.natAbs (by omega)
    omega
  · rw [Lib.decDigits_length]
    have := nDigits_le n.toNat (by omega)
    omega
theorem exsL_tiny {xs : List (ByteArray × ByteArray)} (hn : xs.length ≤ 18001) (h : ∀ x ∈ xs, x.1.size ≤ 18001 ∧ x.2.size ≤ 18001) : (exsL xs).length ≤ 973000000 := by
  unfold exsL
  have := join_len 0 54004 (xs.map extL) (fun v hv => by
    obtain ⟨x, hx, rfl⟩ := List.mem_map.1 hv
    unfold extL
    have h1 := valueL_len x.2.data.toList
    have h2 := h x hx
    rw [List.length_append, List.length_cons]
    rw [Lib.size_eq, Lib.size_eq] at h2
    omega)
  rw [List.length_map] at this
  have h3 : xs.length * (54004 + 1) ≤ 18001 * 54005 := Nat.mul_le_mul_right _ hn
  omega
theorem dateL_tiny {c : CX} (h : ChTiny c) : (dateL c).length ≤ 973000050 := by
  unfold dateL
  have h1 := itoa_len c.t h.2.2.2.2.2.2.1
  have h2 := itoa_len c.z h.2.2.2.2.2.2.2
  have h3 := exsL_tiny h.2.2.1 h.2.2.2.2.1
  rw [List.length_append, List.length_cons, List.length_append]
  split
  · simp; omega
  · rw [List.length_cons]; omega
theorem printL_tiny {c : CX} (h : ChTiny c) (h20 : c.n.length = 20) : (printL c).length ≤ 1300000000 := by
  have h1 := dateL_tiny h
  have h2 := join_len 10 18001 (c.fs.map (·.data.toList) ++ [[], c.d.data.toList]) (fun v hv => by
    rcases List.mem_append.1 hv with hv | hv
    · obtain ⟨p, hp, rfl⟩ := List.mem_map.1 hv
      rw [← Lib.size_eq]; exact h.2.2.2.2.2.1 p hp
    · simp at hv
      rcases hv with rfl | rfl
      · simp
      · rw [← Lib.size_eq]; exact h.2.1)
  rw [List.length_append, List.length_map] at h2
  have h3 : (c.fs.length + 2) * (18001 + 1) ≤ 18003 * 18002 := Nat.mul_le_mul_right _ (by have := h.2.2.2.1; omega)
  have h4 := h.1
  rw [Lib.size_eq] at h4
  rw [printL_eq, List.length_append, hexOf_length, h20, List.length_cons, List.length_append, List.length_cons, List.length_append, List.length_cons]
  simp only [List.length_cons, List.length_nil] at h2
  omega
theorem map_one (a : Act) (x : Operand) (v : Value) (h : a.eval x = v) : (#[(0, x)] : Array (Nat × Operand)).map (fun (i, x) => (i, a.eval x)) = #[(0, v)] := by simp [h]
theorem map_two (a : Act) (x y : Operand) (u v : Value) (h1 : a.eval x = u) (h2 : a.eval y = v) : (#[(0, x), (1, y)] : Array (Nat × Operand)).map (fun (i, x) => (i, a.eval x)) = #[(0, u), (1, v)] := by simp [h1, h2]
theorem map_three (a : Act) (x y z : Operand) (u v t : Value) (h1 : a.eval x = u) (h2 : a.eval y = v) (h3 : a.eval z = t) : (#[(0, x), (1, y), (2, z)] : Array (Nat × Operand)).map (fun (i, x) => (i, a.eval x)) = #[(0, u), (1, v), (2, t)] := by simp [h1, h2, h3]
theorem wpList_slice {P : Program} {w : World} {ops : Array Oper} {rest : List Oper} {o : Oper} {a : Act} {Q : Exit → Act → World → Prop} (hw : Region.wanted o (yielded ops a.tmps) = true) (ty : TypeId) (len : Nat) (ps : Array (Nat × Operand)) (ho : o.op = .buildSlice ty len ps)
    (qs : Array (Nat × Value)) (hq : (ps.map fun (i, x) => (i, a.eval x)) = qs) (v : Value) (w' : World) (hr : (Instr.buildSlice ty len qs).run P w = .ok v w') (h : wpList P ops Q rest (a.put o.dst v) w') : wpList P ops Q (o :: rest) a w := by
  refine wpList_step ?_
  intro K hK
  rw [if_pos hw]
  unfold Oper.wp execOp
  simp only [ho, Sem.run_bind, hq, hr, Result.andThen_ok]
  exact hK _ _ h
theorem step_slice {P : Program} {w : World} {ops : Array Oper} {o : Oper} {a : Act} {K : Act → World → Prop} {Q : Exit → Act → World → Prop} {E : Prop} (hw : Region.wanted o (yielded ops a.tmps) = true) (ty : TypeId) (len : Nat) (ps : Array (Nat × Operand)) (ho : o.op = .buildSlice ty len ps)
    (qs : Array (Nat × Value)) (hq : (ps.map fun (i, x) => (i, a.eval x)) = qs) (v : Value) (w' : World) (hr : (Instr.buildSlice ty len qs).run P w = .ok v w') (h : K (a.put o.dst v) w') : if Region.wanted o (yielded ops a.tmps) = true then Oper.wp P o a w K Q else E := by
  rw [if_pos hw]
  unfold Oper.wp execOp
  simp only [ho, Sem.run_bind, hq, hr, Result.andThen_ok]
  exact h
theorem step_append_none {w : World} {ops : Array Oper} {o : Oper} {a : Act} {K : Act → World → Prop} {Q : Exit → Act → World → Prop} {E : Prop} (hw : Region.wanted o (yielded ops a.tmps) = true) (s x : Operand) (t : TypeId)
    (ho : o.op = .call { callee := .builtin .append, args := #[s, x], argTypes := #[t, t] }) (base : Nat) (e : TypeId) {by' : Nat} (hE : Elem t e 1 by') (v : Value) (xs : List ByteArray) (hs : a.eval s = v) (hown : OwnG 1 strE e w base v xs) (hx : a.eval x = .slice none 0 0)
    (h : K (a.put o.dst v) w) : if Region.wanted o (yielded ops a.tmps) = true then Oper.wp Tryz.prog o a w K Q else E := by
  rw [if_pos hw]
  obtain ⟨hu, i, z, hi, -⟩ := hE
  have hrun := run_append_owned_none (P := Tryz.prog) (w := w) base t o.type e i 1 hu hi v _ _ hown
  unfold Oper.wp
  simp [execOp, ho, resolve, invoke, builtin, hs, hx, hrun, Result.andThen]
  exact h
theorem slice_three (a b c : ByteArray) (W : World) : (Instr.buildSlice 38 3 #[(0, .string a), (1, .string b), (2, .string c)]).run Tryz.prog W = .ok (.slice (some ⟨W.heap.size, 0, none⟩) 3 3) (W.alloc (.cells #[.string a, .string b, .string c] 9)) := by
  obtain ⟨hu, i, z, hi, hz, h1, -, h3⟩ := elem_str
  refine run_buildSlice W _ _ _ _ _ i _ hu hi hz (by rw [h1]; decide) (by rw [h1]; decide) ?_
  rw [h1]
  have := Go.Great.fill_whole (s := 1) (by omega) [Value.string a, .string b, .string c] (Array.map (fun x => z.cells[x % z.cells.size]!) (Array.range (3 * 1))) (fun v hv => by simp at hv; rcases hv with rfl | rfl | rfl <;> rfl) (by simp)
  simpa [Value.cells] using this
theorem slice_pair (a b : ByteArray) (W : World) : (Instr.buildSlice 38 2 #[(0, .string a), (1, .string b)]).run Tryz.prog W = .ok (.slice (some ⟨W.heap.size, 0, none⟩) 2 2) (W.alloc (.cells #[.string a, .string b] 9)) := by
  obtain ⟨hu, i, z, hi, hz, h1, -, h3⟩ := elem_str
  refine run_buildSlice W _ _ _ _ _ i _ hu hi hz (by rw [h1]; decide) (by rw [h1]; decide) ?_
  rw [h1]
  have := Go.Great.fill_whole (s := 1) (by omega) [Value.string a, .string b] (Array.map (fun x => z.cells[x % z.cells.size]!) (Array.range (2 * 1))) (fun v hv => by simp at hv; rcases hv with rfl | rfl <;> rfl) (by simp)
  simpa [Value.cells] using this
theorem own_three (W : World) (a b c : ByteArray) (base : Nat) (hb : base ≤ W.heap.size) : OwnG 1 strE 9 (W.alloc (.cells #[.string a, .string b, .string c] 9)) base (.slice (some ⟨W.heap.size, 0, none⟩) 3 3) [a, b, c] :=
  ⟨rfl, .inr ⟨W.heap.size, 3, _, rfl, hb, heap_alloc_new W _, Nat.le_refl _, by unfold maxLen; omega, rfl, rfl⟩⟩
theorem pair_rows (W : World) (a b : ByteArray) : ∀ (j : Nat) y, [a, b][j]? = some y → (W.alloc (.cells #[.string a, .string b] 9)).rangeAt W.heap.size (0 + j * 1) (strE y) := fun j y hj => by
  intro i v hv
  have hi : i = 0 := by
    have := (List.getElem?_eq_some_iff.1 hv).1
    rw [strE_len] at this; omega
  subst hi
  rw [cell_of_row _ _ _ _ _ _ (heap_alloc_new W _), Nat.zero_add, Nat.mul_one, Nat.add_zero]
  have hv' : v = .string y := by simpa [strE] using hv.symm
  subst hv'
  match j, hj with
  | 0, hj => obtain rfl : a = y := by simpa using hj
             rfl
  | 1, hj => obtain rfl : b = y := by simpa using hj
             rfl
theorem own_cells {e : TypeId} {w : World} {base g n c : Nat} {xs : List ByteArray} (h : OwnG 1 strE e w base (.slice (some ⟨g, 0, none⟩) n c) xs) (h0 : 0 < xs.length) : (∀ (j : Nat) x, xs[j]? = some x → w.cell? ⟨g, 0 + j, none⟩ = some (.string x)) ∧ g < w.heap.size ∧ xs.length = n ∧ n ≤ c := by
  obtain ⟨a', c', h1, h2, h3, -⟩ := h.at strE_len
  simp only [Value.slice.injEq] at h1
  obtain ⟨rfl, rfl, rfl⟩ := h1
  rcases h2 with h2 | ⟨b, off, e1, hl, hc⟩
  · omega
  · simp only [Option.some.injEq, Addr.mk.injEq, and_true] at e1
    obtain ⟨rfl, rfl⟩ := e1
    refine ⟨fun j x hj => ?_, hl, rfl, h3⟩
    have := range_str (hc j x hj)
    rwa [Nat.mul_one] at this
def linesB (c : CX) (D : ByteArray) : List ByteArray := ([⟨(hexOf c.n).toArray⟩, c.u, D] ++ c.fs) ++ [⟨#[]⟩, c.d]
theorem lines_print (c : CX) : Lib.join ((linesB c (txt (dateL c))).map (·.data.toList)) [10] = printL c := by
  unfold linesB printL linesL
  rw [List.map_append, List.map_append, List.map_cons, List.map_cons, List.map_cons, List.map_nil, txt_list]
  rfl
theorem id_info8 (xs : List Int) (h : xs.length = 20) : (Tryz.prog.info? 29).map (·.size) = some (U8 xs).length := by rw [U8_length, h]; kernel_rfl
/-- What is printed. -/
def ChPrint (e : Ending) (w' : World) (c : CX) : Prop :=
  (rightC c = true ∧ ∃ a cap, e = .returned (.tuple #[.slice a (printL c).length cap, .int .i64 0]) ∧ (printL c).length ≤ cap ∧ Bytes w' a (printL c).length (numsOf (txt (printL c)))) ∨ (rightC c = false ∧ e = .returned (.tuple #[.slice none 0 0, .int .i64 4]))
set_option maxRecDepth 100000 in
set_option maxHeartbeats 32000000 in
theorem chprint_any (c : CX) (xa : Option Addr) (xc : Nat) (fa : Option Addr) (fc : Nat) (w : World) (h : ChAt w c xa xc fa fc) (hs : ChTiny c) (hE : EnvC w) :
    Calls Tryz.prog 35 #[.agg (chV c xa xc fa fc)] w fun e w' => ChPrint e w' c ∧ Below w.heap.size w w' := by
  have HSM := Lib.hid hs
  have HE := Lib.hid hE
  have HAT := Lib.hid h
  obtain ⟨n, hN⟩ : ∃ n, c.xs.length = n := ⟨_, rfl⟩
  obtain ⟨fn, hFN⟩ : ∃ n, c.fs.length = n := ⟨_, rfl⟩
  have HN := Lib.hid hN
  have HFN := Lib.hid hFN
  have HNB : Hid (n ≤ 18001) := by rw [← hN]; exact hs.2.2.1
  have HFB : Hid (fn ≤ 18001) := by rw [← hFN]; exact hs.2.2.2.1
  have HTB := Lib.hid hs.2.2.2.2.2.2.1
  have HZB := Lib.hid hs.2.2.2.2.2.2.2
  have HN20 := Lib.hid h.n20
  have HBY := Lib.hid h.byt
  have HV : Hid (chV c xa xc fa fc = chA c (.slice xa n xc) (.slice fa fn fc)) := by show _ = _; unfold chV; rw [hN, hFN]
  have HRI0 := fun W (hW : Below w.heap.size w W) => chright_any c xa xc fa fc W (h.below hW) hs.small (hE.below hW)
  simp only [HV.out] at HRI0
  have HRI := Lib.hid HRI0
  rw [HV.out]
  have HB0 : Hid (Below w.heap.size w (w.alloc (.cells (chA c (.slice xa n xc) (.slice fa fn fc)) 40))) := (Below.refl _ _).alloc (Nat.le_refl _) _
  have HCW0 : Hid (ChRow (w.alloc (.cells (chA c (.slice xa n xc) (.slice fa fn fc)) 40)) w.heap.size c (.slice xa n xc) (.slice fa fn fc)) := ChRow.of (heap_alloc_new _ _) h.n20
  have HSZ0 : Hid (w.heap.size < (w.alloc (.cells (chA c (.slice xa n xc) (.slice fa fn fc)) 40)).heap.size) := by show _ < _; simp
  have HICH := Lib.hid (info_ch c (.slice xa n xc) (.slice fa fn fc) h.n20)
  have HIDI := Lib.hid (id_info8 c.n h.n20)
  clear hN hFN h hs hE HRI0
  go_enter Tryz.func35, Tryz.ntmps35
  go_wp2_with (first
    | refine wpList_load_mid rfl 40 _ rfl w.heap.size 0 rfl (chL c (.slice xa n xc) (.slice fa fn fc)) _ HCW0.out.cells Tryz.underlying40 rfl HICH.out ?_)
  generalize w.alloc (.cells (chA c (.slice xa n xc) (.slice fa fn fc)) 40) = w0 at *
  have HCW : Hid (∀ W, Below w0.heap.size w0 W → ChRow W w.heap.size c (.slice xa n xc) (.slice fa fn fc)) := fun W hW => HCW0.out.below HSZ0.out hW
  refine (HRI.out w0 HB0.out).mono ?_
  rintro e w1 ⟨rfl, hb⟩
  have HB1 := Lib.hid hb
  have HB01 := Lib.hid (HB0.out.trans (hb.mono HB0.out.size))
  clear hb HRI
  cases hr : rightC c
  · have HP : Hid (ChPrint (.returned (.tuple #[.slice none 0 0, .int .i64 4])) w1 c) := .inr ⟨hr, rfl⟩
    clear hr
    go_wp2_with fail
    go_ret2
    exact ⟨HP.out, HB01.out⟩
  · have HRC := Lib.hid hr
    clear hr
    have HA1 : Hid (∀ W, (binOp .add 9 (.string (txt (Lib.itoa c.t))) (.string ⟨#[32]⟩)).run Tryz.prog W = .ok (.string (txt (Lib.itoa c.t) ++ ⟨#[32]⟩)) W) := fun W => add_op _ _ (by rw [txt_size]; have := itoa_len c.t HTB.out; show _ + 1 ≤ _; omega) W
    have HT1S : Hid ((txt (Lib.itoa c.t) ++ (⟨#[32]⟩ : ByteArray)).data.toList = Lib.itoa c.t ++ [32]) := by show _ = _; rw [ByteArray.data_append, Array.toList_append, txt_list]
    obtain ⟨T1, hT1⟩ : ∃ s, txt (Lib.itoa c.t) ++ (⟨#[32]⟩ : ByteArray) = s := ⟨_, rfl⟩
    rw [hT1] at HA1 HT1S
    have HT2S : Hid ((T1 ++ txt (Lib.itoa c.z)).data.toList = Lib.itoa c.t ++ 32 :: Lib.itoa c.z) := by show _ = _; rw [ByteArray.data_append, Array.toList_append, HT1S.out, txt_list]; simp
    have HA2 : Hid (∀ W, (binOp .add 9 (.string T1) (.string (txt (Lib.itoa c.z)))).run Tryz.prog W = .ok (.string (T1 ++ txt (Lib.itoa c.z))) W) := fun W => add_op _ _ (by
      rw [txt_size, Lib.size_eq T1, HT1S.out, List.length_append]
      have h1 := itoa_len c.t HTB.out
      have h2 := itoa_len c.z HZB.out
      show _ + 1 + _ ≤ _
      omega) W
    obtain ⟨T2, hT2⟩ : ∃ s, T1 ++ txt (Lib.itoa c.z) = s := ⟨_, rfl⟩
    rw [hT2] at HA2 HT2S
    clear hT1 hT2
    go_wp2_with fail
    refine wp_region_noPanic ?_
    refine wp_region_held_drew (S := fun W => Below w1.heap.size w1 W) (by kernel_rfl) ?_ (fun hHeld => ?_)
    · exact (Below.refl _ _).drew
    refine tkV 0 (v := ?_) (hw := ?_) (h := ?_)
    rotate_left
    · intro W hSW
      go_simp
      try with_reducible rfl
    try simp only [Act.put, List.setIfInBounds_toArray, List.set_cons_zero, List.set_cons_succ]
    refine tkY 1 (hy := (yieldsIf_load_int (by rfl) 3 _ rfl w.heap.size 21 rfl c.t (fun W hSW => (HCW.out W (HB1.out.trans (hSW.mono HB1.out.size))).time) Tryz.underlying3)) (h := ?_)
    try simp only [Act.put, List.setIfInBounds_toArray, List.set_cons_zero, List.set_cons_succ]
    refine tkV 4 (v := ?_) (hw := ?_) (h := ?_)
    rotate_left
    · intro W hSW
      go_simp
      try with_reducible rfl
    try simp only [Act.put, List.setIfInBounds_toArray, List.set_cons_zero, List.set_cons_succ]
    refine tkY 5 (hy := (yieldsIf_load_int (by rfl) 3 _ rfl w.heap.size 22 rfl c.z (fun W hSW => (HCW.out W (HB1.out.trans (hSW.mono HB1.out.size))).zone) Tryz.underlying3)) (h := ?_)
    try simp only [Act.put, List.setIfInBounds_toArray, List.set_cons_zero, List.set_cons_succ]
    refine wpAnyH_ready (rs := [2]) (by kernel_rfl) (by simp) ?_
    refine AllReadyH.cons (by simp only [List.getElem?_toArray, List.getElem?_cons_succ, List.getElem?_cons_zero]; rfl) (fun K hK => ?_) AllReadyH.nil
    go_simp
    refine (decz_any c.t HTB.out.1 HTB.out.2 _ (HE.out.below (HB01.out.trans ((Below.refl w1.heap.size w1).drew.mono HB01.out.size))).tab).mono ?_
    rintro e v1 ⟨rfl, hb⟩
    have hb1 : Below w1.heap.size w1 v1 := (Below.refl _ _).drew.trans hb
    have HV1 := Lib.hid hb1
    clear hb hb1
    go_wp2_with fail
    refine hK.out _ _ (HV1.out) (fun hHeld2 => ?_)
    clear hK K hHeld
    have hHeld := hHeld2
    clear hHeld2
    try simp only [Act.put, List.setIfInBounds_toArray, List.set_cons_zero, List.set_cons_succ]
    refine tkY 3 (hy := (yieldsIf_eql (by rfl) .add 9 _ _ _ rfl (.string (txt (Lib.itoa c.t))) (.string ⟨#[32]⟩) rfl rfl (.string T1) (guard_add _ _ _ _) (fun W => HA1.out W))) (h := ?_)
    try simp only [Act.put, List.setIfInBounds_toArray, List.set_cons_zero, List.set_cons_succ]
    refine wpAnyH_ready (rs := [6]) (by kernel_rfl) (by simp) ?_
    refine AllReadyH.cons (by simp only [List.getElem?_toArray, List.getElem?_cons_succ, List.getElem?_cons_zero]; rfl) (fun K hK => ?_) AllReadyH.nil
    go_simp
    refine (decz_any c.z HZB.out.1 HZB.out.2 _ (HE.out.below (HB01.out.trans (HV1.out.mono HB01.out.size))).tab).mono ?_
    rintro e v2 ⟨rfl, hb⟩
    have hb2 : Below w1.heap.size w1 v2 := HV1.out.trans (hb.mono HV1.out.size)
    have HV2 := Lib.hid hb2
    clear hb hb2
    go_wp2_with fail
    refine hK.out _ _ (HV2.out) (fun hHeld2 => ?_)
    clear hK K hHeld
    have hHeld := hHeld2
    clear hHeld2
    try simp only [Act.put, List.setIfInBounds_toArray, List.set_cons_zero, List.set_cons_succ]
    refine tkY 7 (hy := (yieldsIf_eql (by rfl) .add 9 _ _ _ rfl (.string T1) (.string (txt (Lib.itoa c.z))) rfl rfl (.string T2) (guard_add _ _ _ _) (fun W => HA2.out W))) (h := ?_)
    try simp only [Act.put, List.setIfInBounds_toArray, List.set_cons_zero, List.set_cons_succ]
    refine tkV 8 (v := ?_) (hw := ?_) (h := ?_)
    rotate_left
    · intro W hSW
      go_simp
      try with_reducible rfl
    try simp only [Act.put, List.setIfInBounds_toArray, List.set_cons_zero, List.set_cons_succ]
    refine wpAnyH_done (by kernel_rfl) ?_ _
    refine NoPanic.normal ?_
    clear hHeld
    have HB2 := Lib.hid (HB1.out.trans (HV2.out.mono HB1.out.size))
    have HB02 := Lib.hid (HB0.out.trans (HB2.out.mono HB0.out.size))
    have hcx := (HCW.out v2 HB2.out).exts
    by_cases hn0 : n = 0
    · subst hn0
      try rw [show ((0 : Nat) : Int) = 0 from rfl]
      have HDT : Hid (T2 = txt (dateL c)) := by
        show _ = _
        apply bytes_ext
        rw [HT2S.out, txt_list]
        unfold dateL
        rw [if_pos (List.eq_nil_of_length_eq_zero HN.out), List.append_nil]
      go_wp2_with fail
      clear hcx
      rename World => w3
      have HB3 := HB2
      obtain ⟨DT, hDT⟩ : ∃ s, T2 = s := ⟨_, rfl⟩
      rw [hDT] at HDT ⊢
      clear hDT
      by_cases hf0 : fn = 0
      · subst hf0
        obtain ⟨hfa, hfc⟩ := HAT.out.fnil HFN.out
        subst hfa hfc
        have HLN : Hid (([⟨(hexOf c.n).toArray⟩, c.u, DT] : List ByteArray).length = 3) := rfl
        obtain ⟨n3, hn3⟩ : ∃ x, 3 + 2 = x := ⟨_, rfl⟩
        have HN3 := Lib.hid hn3
        have HN3B : Hid (n3 ≤ 18006) := by show _ ≤ _; omega
        clear hn3
        refine wp_region_noPanic ?_
        refine wp_region_held_drew (S := fun W => Below w3.heap.size w3 W) (by kernel_rfl) ?_ (fun hHeld => ?_)
        · exact (Below.refl _ _).drew
        refine tkV 0 (v := ?_) (hw := ?_) (h := ?_)
        rotate_left
        · intro W hSW
          go_simp
          try with_reducible rfl
        try simp only [Act.put, List.setIfInBounds_toArray, List.set_cons_zero, List.set_cons_succ]
        refine tkY 1 (hy := (yieldsIf_load_mid (by rfl) 29 _ rfl w.heap.size 0 rfl (U8 c.n) (.array 20 5) (fun W hSW => (HCW.out W (HB3.out.trans (hSW.mono HB3.out.size))).id) Tryz.underlying29 rfl HIDI.out)) (h := ?_)
        try simp only [Act.put, List.setIfInBounds_toArray, List.set_cons_zero, List.set_cons_succ]
        refine tkV 3 (v := ?_) (hw := ?_) (h := ?_)
        rotate_left
        · intro W hSW
          go_simp
          try with_reducible rfl
        try simp only [Act.put, List.setIfInBounds_toArray, List.set_cons_zero, List.set_cons_succ]
        refine tkY 4 (hy := (yieldsIf_load_str (by rfl) 9 _ rfl w.heap.size 20 rfl c.u (fun W hSW => (HCW.out W (HB3.out.trans (hSW.mono HB3.out.size))).user) Tryz.underlying9)) (h := ?_)
        try simp only [Act.put, List.setIfInBounds_toArray, List.set_cons_zero, List.set_cons_succ]
        refine tkV 5 (v := ?_) (hw := ?_) (h := ?_)
        rotate_left
        · intro W hSW
          go_simp
          try with_reducible rfl
        try simp only [Act.put, List.setIfInBounds_toArray, List.set_cons_zero, List.set_cons_succ]
        refine tkV 7 (v := ?_) (hw := ?_) (h := ?_)
        rotate_left
        · intro W hSW
          go_simp
          try with_reducible rfl
        try simp only [Act.put, List.setIfInBounds_toArray, List.set_cons_zero, List.set_cons_succ]
        refine tkY 8 (hy := (yieldsIf_load_sl (by rfl) 38 _ rfl w.heap.size 24 rfl (.slice none 0 0) (fun W hSW => (HCW.out W (HB3.out.trans (hSW.mono HB3.out.size))).files) Tryz.underlying38)) (h := ?_)
        try simp only [Act.put, List.setIfInBounds_toArray, List.set_cons_zero, List.set_cons_succ]
        refine wpAnyH_ready (rs := [2]) (by kernel_rfl) (by simp) ?_
        refine AllReadyH.cons (by simp only [List.getElem?_toArray, List.getElem?_cons_succ, List.getElem?_cons_zero]; rfl) (fun K hK => ?_) AllReadyH.nil
        go_simp
        refine (hex_any c.n _ HN20.out HBY.out).mono ?_
        rintro e v1 ⟨rfl, hb⟩
        have hb1 : Below w3.heap.size w3 v1 := (Below.refl _ _).drew.trans hb
        have HV1 := Lib.hid hb1
        clear hb hb1
        go_wp2_with fail
        refine hK.out _ _ (HV1.out) (fun hHeld2 => ?_)
        clear hK K hHeld
        have hHeld := hHeld2
        clear hHeld2
        try simp only [Act.put, List.setIfInBounds_toArray, List.set_cons_zero, List.set_cons_succ]
        refine wpAnyH_ready (rs := [6]) (by kernel_rfl) (by simp) ?_
        refine AllReadyH.cons (by simp only [List.getElem?_toArray, List.getElem?_cons_succ, List.getElem?_cons_zero]; rfl) (fun K hK => ?_) AllReadyH.nil
        refine step_slice (by rfl) _ _ _ rfl #[(0, .string ⟨(hexOf c.n).toArray⟩), (1, .string c.u), (2, .string DT)] (map_three _ _ _ _ _ _ _ rfl rfl rfl) _ _ (slice_three _ _ _ v1) ?_
        have HV2 : Hid (Below w3.heap.size w3 (v1.alloc (.cells #[.string ⟨(hexOf c.n).toArray⟩, .string c.u, .string DT] 9))) := HV1.out.alloc HV1.out.size _
        have HO2 : Hid (OwnG 1 strE 9 (v1.alloc (.cells #[.string ⟨(hexOf c.n).toArray⟩, .string c.u, .string DT] 9)) w3.heap.size (.slice (some ⟨v1.heap.size, 0, none⟩) 3 3) [⟨(hexOf c.n).toArray⟩, c.u, DT]) := own_three v1 _ _ _ _ HV1.out.size
        refine hK.out _ _ (HV2.out) (fun hHeld2 => ?_)
        clear hK K hHeld
        have hHeld := hHeld2
        clear hHeld2
        try simp only [Act.put, List.setIfInBounds_toArray, List.set_cons_zero, List.set_cons_succ]
        refine wpAnyH_ready (rs := [9]) (by kernel_rfl) (by simp) ?_
        refine AllReadyH.cons (by simp only [List.getElem?_toArray, List.getElem?_cons_succ, List.getElem?_cons_zero]; rfl) (fun K hK => ?_) AllReadyH.nil
        refine step_append_none (by rfl) _ _ 38 rfl w3.heap.size 9 elem_str (.slice (some ⟨v1.heap.size, 0, none⟩) 3 3) [⟨(hexOf c.n).toArray⟩, c.u, DT] rfl HO2.out rfl ?_
        have HV4 := HV2
        have HO4 := HO2
        obtain ⟨g4, hg4⟩ : ∃ g, v1.heap.size = g := ⟨_, rfl⟩
        have HG4 := Lib.hid hg4
        refine hK.out _ _ (HV4.out) (fun hHeld2 => ?_)
        clear hK K hHeld
        have hHeld := hHeld2
        clear hHeld2
        try simp only [Act.put, List.setIfInBounds_toArray, List.set_cons_zero, List.set_cons_succ]
        refine tkV 10 (v := ?_) (hw := ?_) (h := ?_)
        rotate_left
        · intro W hSW
          go_simp
          try with_reducible rfl
        try simp only [Act.put, List.setIfInBounds_toArray, List.set_cons_zero, List.set_cons_succ]
        refine wpAnyH_done (by kernel_rfl) ?_ _
        refine NoPanic.normal ?_
        rw [hg4] at HO4 ⊢
        clear hg4
        generalize v1.alloc (.cells #[.string ⟨(hexOf c.n).toArray⟩, .string c.u, .string DT] 9) = w4 at *
        clear hHeld
        have HB4 := Lib.hid (HB3.out.trans (HV4.out.mono HB3.out.size))
        have hcd := (HCW.out w4 HB4.out).desc
        have HOA := Lib.hid (HO4.out.below ((Below.refl w4.heap.size w4).alloc (Nat.le_refl _) (.cells #[.string ⟨#[]⟩, .string c.d] 9)))
        have HVA : Hid (Below w3.heap.size w3 (w4.alloc (.cells #[.string ⟨#[]⟩, .string c.d] 9))) := HV4.out.alloc HV4.out.size _
        go_wp2_with (first
          | refine wpList_slice rfl 38 2 #[(0, _), (1, _)] rfl #[(0, .string ⟨#[]⟩), (1, .string c.d)] (map_two _ _ _ _ _ rfl rfl) _ _ (slice_pair _ _ w4) ?_
          | (refine wpList_append_G elem_str strE_len (by decide) (by decide) strE_one rfl _ _ rfl w3.heap.size (.slice (some ⟨g4, 0, none⟩) 3 3) ([⟨(hexOf c.n).toArray⟩, c.u, DT]) 3 HLN.out rfl HOA.out w4.heap.size 0 2 2 [⟨#[]⟩, c.d] rfl (by decide) rfl (pair_rows w4 _ _) n3 ([⟨(hexOf c.n).toArray⟩, c.u, DT] ++ [⟨#[]⟩, c.d]) HN3.out rfl (by have := HN3B.out; omega) HVA.out.size ?_
             rintro g6 gc6 w6 ho6 hg6 hgg hgl
             have HO6 := Lib.hid ho6
             have HV6 : Hid (Below w3.heap.size w3 w6) := HVA.out.trans (own_off HOA.out HVA.out.size hg6)
             clear ho6 hg6 hgg hgl))
        clear hcd HOA HVA HO4
        have HB6 := Lib.hid (HB3.out.trans (HV6.out.mono HB3.out.size))
        have HB06 := Lib.hid (HB0.out.trans (HB6.out.mono HB0.out.size))
        obtain ⟨hj1, hj2, hj3, hj4⟩ := own_cells HO6.out (by simp)
        have HLL : Hid ([⟨(hexOf c.n).toArray⟩, c.u, DT] ++ [⟨#[]⟩, c.d] = linesB c (txt (dateL c))) := by show _ = _; rw [← HDT.out]; unfold linesB; rw [List.eq_nil_of_length_eq_zero HFN.out]; rfl
        have HPLN := Lib.hid (printL_tiny HSM.out HN20.out)
        have hj5 : (Lib.join (([⟨(hexOf c.n).toArray⟩, c.u, DT] ++ [⟨#[]⟩, c.d]).map (·.data.toList)) (⟨#[10]⟩ : ByteArray).data.toList) = printL c := by rw [HLL.out]; exact lines_print c
        have HJ := Tryz.strings_Join g6 0 gc6 ([⟨(hexOf c.n).toArray⟩, c.u, DT] ++ [⟨#[]⟩, c.d]) ⟨#[10]⟩ w6 hj1 hj2 (by rw [hj3]; have := HN3B.out; omega) (by rw [hj3]; exact hj4) (by rw [hj5]; have := HPLN.out; omega)
        rw [hj5, hj3] at HJ
        have HJ := Lib.hid HJ
        clear hj1 hj2 hj3 hj4 hj5 HO6
        refine HJ.out.mono ?_
        rintro e w7 ⟨rfl, hb⟩
        have HB07 := Lib.hid (HB06.out.trans (hb.mono HB06.out.size))
        clear hb HJ
        have hsz := txt_size (printL c)
        obtain ⟨cp, hcp, hcv⟩ := conv_bytes w7 (txt (printL c))
        have hby := bytes_new w7 (txt (printL c)) (by rw [hsz]; have := HPLN.out; omega)
        rw [hsz] at hcp hcv hby
        have HCP := Lib.hid hcp
        have HBYT := Lib.hid hby
        have HBL : Hid (Below w.heap.size w (Lib.bytesWorld w7 5 (txt (printL c)))) := HB07.out.trans ((Lib.bytesWorld_below _ _ _).mono HB07.out.size)
        clear hcp hby hsz
        have HP : Hid (ChPrint (.returned (.tuple #[.slice (some ⟨w7.heap.size, 0, none⟩) (printL c).length cp, .int .i64 0])) (Lib.bytesWorld w7 5 (txt (printL c))) c) := .inl ⟨HRC.out, _, _, rfl, HCP.out, HBYT.out⟩
        obtain ⟨pl, hpl⟩ : ∃ l, (printL c).length = l := ⟨_, rfl⟩
        rw [hpl] at hcv HP
        clear hpl
        have hcv2 : (convert 9 71 (.string ⟨(printL c).toArray⟩)).run Tryz.prog w7 = .ok (.slice (some ⟨w7.heap.size, 0, none⟩) pl cp) (Lib.bytesWorld w7 5 (txt (printL c))) := hcv
        clear hcv
        go_wp2_with fail
        go_ret2
        exact ⟨HP.out, HBL.out⟩
      · have HF0 : Hid (0 < fn) := by show _ < _; omega
        rcases HAT.out.files with h0 | ⟨b, off, hfa, hFL, hFR⟩
        · exact absurd (h0.symm.trans HFN.out).symm hf0
        subst hfa
        have HFR : Hid (∀ W, Below w0.heap.size w0 W → ∀ (j : Nat) y, c.fs[j]? = some y → W.rangeAt b (off + j * 1) (strE y)) := fun W hW j y hj => range_below (hFR j y hj) (HB0.out.trans (hW.mono HB0.out.size)) hFL
        obtain ⟨n2, hn2⟩ : ∃ x, 3 + fn = x := ⟨_, rfl⟩
        have HN2 := Lib.hid hn2
        have HN2B : Hid (n2 ≤ 18004) := by show _ ≤ _; have := HFB.out; omega
        have HLN : Hid (([⟨(hexOf c.n).toArray⟩, c.u, DT] ++ c.fs).length = n2) := by show _ = _; rw [List.length_append, HFN.out, ← hn2]; rfl
        obtain ⟨n3, hn3⟩ : ∃ x, n2 + 2 = x := ⟨_, rfl⟩
        have HN3 := Lib.hid hn3
        have HN3B : Hid (n3 ≤ 18006) := by show _ ≤ _; have := HN2B.out; omega
        clear hn2 hn3 hFR hFL hf0
        refine wp_region_noPanic ?_
        refine wp_region_held_drew (S := fun W => Below w3.heap.size w3 W) (by kernel_rfl) ?_ (fun hHeld => ?_)
        · exact (Below.refl _ _).drew
        refine tkV 0 (v := ?_) (hw := ?_) (h := ?_)
        rotate_left
        · intro W hSW
          go_simp
          try with_reducible rfl
        try simp only [Act.put, List.setIfInBounds_toArray, List.set_cons_zero, List.set_cons_succ]
        refine tkY 1 (hy := (yieldsIf_load_mid (by rfl) 29 _ rfl w.heap.size 0 rfl (U8 c.n) (.array 20 5) (fun W hSW => (HCW.out W (HB3.out.trans (hSW.mono HB3.out.size))).id) Tryz.underlying29 rfl HIDI.out)) (h := ?_)
        try simp only [Act.put, List.setIfInBounds_toArray, List.set_cons_zero, List.set_cons_succ]
        refine tkV 3 (v := ?_) (hw := ?_) (h := ?_)
        rotate_left
        · intro W hSW
          go_simp
          try with_reducible rfl
        try simp only [Act.put, List.setIfInBounds_toArray, List.set_cons_zero, List.set_cons_succ]
        refine tkY 4 (hy := (yieldsIf_load_str (by rfl) 9 _ rfl w.heap.size 20 rfl c.u (fun W hSW => (HCW.out W (HB3.out.trans (hSW.mono HB3.out.size))).user) Tryz.underlying9)) (h := ?_)
        try simp only [Act.put, List.setIfInBounds_toArray, List.set_cons_zero, List.set_cons_succ]
        refine tkV 5 (v := ?_) (hw := ?_) (h := ?_)
        rotate_left
        · intro W hSW
          go_simp
          try with_reducible rfl
        try simp only [Act.put, List.setIfInBounds_toArray, List.set_cons_zero, List.set_cons_succ]
        refine tkV 7 (v := ?_) (hw := ?_) (h := ?_)
        rotate_left
        · intro W hSW
          go_simp
          try with_reducible rfl
        try simp only [Act.put, List.setIfInBounds_toArray, List.set_cons_zero, List.set_cons_succ]
        refine tkY 8 (hy := (yieldsIf_load_sl (by rfl) 38 _ rfl w.heap.size 24 rfl (.slice (some ⟨b, off, none⟩) fn fc) (fun W hSW => (HCW.out W (HB3.out.trans (hSW.mono HB3.out.size))).files) Tryz.underlying38)) (h := ?_)
        try simp only [Act.put, List.setIfInBounds_toArray, List.set_cons_zero, List.set_cons_succ]
        refine wpAnyH_ready (rs := [2]) (by kernel_rfl) (by simp) ?_
        refine AllReadyH.cons (by simp only [List.getElem?_toArray, List.getElem?_cons_succ, List.getElem?_cons_zero]; rfl) (fun K hK => ?_) AllReadyH.nil
        go_simp
        refine (hex_any c.n _ HN20.out HBY.out).mono ?_
        rintro e v1 ⟨rfl, hb⟩
        have hb1 : Below w3.heap.size w3 v1 := (Below.refl _ _).drew.trans hb
        have HV1 := Lib.hid hb1
        clear hb hb1
        go_wp2_with fail
        refine hK.out _ _ (HV1.out) (fun hHeld2 => ?_)
        clear hK K hHeld
        have hHeld := hHeld2
        clear hHeld2
        try simp only [Act.put, List.setIfInBounds_toArray, List.set_cons_zero, List.set_cons_succ]
        refine wpAnyH_ready (rs := [6]) (by kernel_rfl) (by simp) ?_
        refine AllReadyH.cons (by simp only [List.getElem?_toArray, List.getElem?_cons_succ, List.getElem?_cons_zero]; rfl) (fun K hK => ?_) AllReadyH.nil
        refine step_slice (by rfl) _ _ _ rfl #[(0, .string ⟨(hexOf c.n).toArray⟩), (1, .string c.u), (2, .string DT)] (map_three _ _ _ _ _ _ _ rfl rfl rfl) _ _ (slice_three _ _ _ v1) ?_
        have HV2 : Hid (Below w3.heap.size w3 (v1.alloc (.cells #[.string ⟨(hexOf c.n).toArray⟩, .string c.u, .string DT] 9))) := HV1.out.alloc HV1.out.size _
        have HO2 : Hid (OwnG 1 strE 9 (v1.alloc (.cells #[.string ⟨(hexOf c.n).toArray⟩, .string c.u, .string DT] 9)) w3.heap.size (.slice (some ⟨v1.heap.size, 0, none⟩) 3 3) [⟨(hexOf c.n).toArray⟩, c.u, DT]) := own_three v1 _ _ _ _ HV1.out.size
        refine hK.out _ _ (HV2.out) (fun hHeld2 => ?_)
        clear hK K hHeld
        have hHeld := hHeld2
        clear hHeld2
        try simp only [Act.put, List.setIfInBounds_toArray, List.set_cons_zero, List.set_cons_succ]
        refine wpAnyH_ready (rs := [9]) (by kernel_rfl) (by simp) ?_
        refine AllReadyH.cons (by simp only [List.getElem?_toArray, List.getElem?_cons_succ, List.getElem?_cons_zero]; rfl) (fun K hK => ?_) AllReadyH.nil
        refine step_append_G elem_str strE_len (by decide) (by decide) strE_one (by rfl) _ _ rfl w3.heap.size (.slice (some ⟨v1.heap.size, 0, none⟩) 3 3) [⟨(hexOf c.n).toArray⟩, c.u, DT] 3 rfl rfl HO2.out b off fn fc c.fs HFN.out HF0.out rfl (fun j y hj => HFR.out _ (HB3.out.trans (HV2.out.mono HB3.out.size)) j y hj) n2 ([⟨(hexOf c.n).toArray⟩, c.u, DT] ++ c.fs) HN2.out rfl (by have := HN2B.out; omega) HV2.out.size ?_
        rintro g4 gc4 w4 ho4 hg4 hgg hgl
        have HO4 := Lib.hid ho4
        have HV4 : Hid (Below w3.heap.size w3 w4) := HV2.out.trans (own_off HO2.out HV2.out.size hg4)
        clear ho4 hg4 hgg hgl
        refine hK.out _ _ (HV4.out) (fun hHeld2 => ?_)
        clear hK K hHeld
        have hHeld := hHeld2
        clear hHeld2
        try simp only [Act.put, List.setIfInBounds_toArray, List.set_cons_zero, List.set_cons_succ]
        refine tkV 10 (v := ?_) (hw := ?_) (h := ?_)
        rotate_left
        · intro W hSW
          go_simp
          try with_reducible rfl
        try simp only [Act.put, List.setIfInBounds_toArray, List.set_cons_zero, List.set_cons_succ]
        refine wpAnyH_done (by kernel_rfl) ?_ _
        refine NoPanic.normal ?_
        clear hHeld
        have HB4 := Lib.hid (HB3.out.trans (HV4.out.mono HB3.out.size))
        have hcd := (HCW.out w4 HB4.out).desc
        have HOA := Lib.hid (HO4.out.below ((Below.refl w4.heap.size w4).alloc (Nat.le_refl _) (.cells #[.string ⟨#[]⟩, .string c.d] 9)))
        have HVA : Hid (Below w3.heap.size w3 (w4.alloc (.cells #[.string ⟨#[]⟩, .string c.d] 9))) := HV4.out.alloc HV4.out.size _
        go_wp2_with (first
          | refine wpList_slice rfl 38 2 #[(0, _), (1, _)] rfl #[(0, .string ⟨#[]⟩), (1, .string c.d)] (map_two _ _ _ _ _ rfl rfl) _ _ (slice_pair _ _ w4) ?_
          | (refine wpList_append_G elem_str strE_len (by decide) (by decide) strE_one rfl _ _ rfl w3.heap.size (.slice (some ⟨g4, 0, none⟩) n2 gc4) ([⟨(hexOf c.n).toArray⟩, c.u, DT] ++ c.fs) n2 HLN.out rfl HOA.out w4.heap.size 0 2 2 [⟨#[]⟩, c.d] rfl (by decide) rfl (pair_rows w4 _ _) n3 ([⟨(hexOf c.n).toArray⟩, c.u, DT] ++ c.fs ++ [⟨#[]⟩, c.d]) HN3.out rfl (by have := HN3B.out; omega) HVA.out.size ?_
             rintro g6 gc6 w6 ho6 hg6 hgg hgl
             have HO6 := Lib.hid ho6
             have HV6 : Hid (Below w3.heap.size w3 w6) := HVA.out.trans (own_off HOA.out HVA.out.size hg6)
             clear ho6 hg6 hgg hgl))
        clear hcd HOA HVA HO4
        have HB6 := Lib.hid (HB3.out.trans (HV6.out.mono HB3.out.size))
        have HB06 := Lib.hid (HB0.out.trans (HB6.out.mono HB0.out.size))
        obtain ⟨hj1, hj2, hj3, hj4⟩ := own_cells HO6.out (by simp)
        have HLL : Hid ([⟨(hexOf c.n).toArray⟩, c.u, DT] ++ c.fs ++ [⟨#[]⟩, c.d] = linesB c (txt (dateL c))) := by show _ = _; rw [← HDT.out]; unfold linesB; rfl
        have HPLN := Lib.hid (printL_tiny HSM.out HN20.out)
        have hj5 : (Lib.join (([⟨(hexOf c.n).toArray⟩, c.u, DT] ++ c.fs ++ [⟨#[]⟩, c.d]).map (·.data.toList)) (⟨#[10]⟩ : ByteArray).data.toList) = printL c := by rw [HLL.out]; exact lines_print c
        have HJ := Tryz.strings_Join g6 0 gc6 ([⟨(hexOf c.n).toArray⟩, c.u, DT] ++ c.fs ++ [⟨#[]⟩, c.d]) ⟨#[10]⟩ w6 hj1 hj2 (by rw [hj3]; have := HN3B.out; omega) (by rw [hj3]; exact hj4) (by rw [hj5]; have := HPLN.out; omega)
        rw [hj5, hj3] at HJ
        have HJ := Lib.hid HJ
        clear hj1 hj2 hj3 hj4 hj5 HO6
        refine HJ.out.mono ?_
        rintro e w7 ⟨rfl, hb⟩
        have HB07 := Lib.hid (HB06.out.trans (hb.mono HB06.out.size))
        clear hb HJ
        have hsz := txt_size (printL c)
        obtain ⟨cp, hcp, hcv⟩ := conv_bytes w7 (txt (printL c))
        have hby := bytes_new w7 (txt (printL c)) (by rw [hsz]; have := HPLN.out; omega)
        rw [hsz] at hcp hcv hby
        have HCP := Lib.hid hcp
        have HBYT := Lib.hid hby
        have HBL : Hid (Below w.heap.size w (Lib.bytesWorld w7 5 (txt (printL c)))) := HB07.out.trans ((Lib.bytesWorld_below _ _ _).mono HB07.out.size)
        clear hcp hby hsz
        have HP : Hid (ChPrint (.returned (.tuple #[.slice (some ⟨w7.heap.size, 0, none⟩) (printL c).length cp, .int .i64 0])) (Lib.bytesWorld w7 5 (txt (printL c))) c) := .inl ⟨HRC.out, _, _, rfl, HCP.out, HBYT.out⟩
        obtain ⟨pl, hpl⟩ : ∃ l, (printL c).length = l := ⟨_, rfl⟩
        rw [hpl] at hcv HP
        clear hpl
        have hcv2 : (convert 9 71 (.string ⟨(printL c).toArray⟩)).run Tryz.prog w7 = .ok (.slice (some ⟨w7.heap.size, 0, none⟩) pl cp) (Lib.bytesWorld w7 5 (txt (printL c))) := hcv
        clear hcv
        go_wp2_with fail
        go_ret2
        exact ⟨HP.out, HBL.out⟩
    · have hgt : (0 : Int) < (n : Int) := by omega
      have HXX := Lib.hid (printexts_any xa xc c.xs v2 ((HAT.out.below HB02.out).exts) (by rw [HN.out]; have := HNB.out; omega) (fun x hx => by have := HSM.out.2.2.2.2.1 x hx; omega))
      rw [HN.out] at HXX
      have HEL := Lib.hid (exsL_tiny HSM.out.2.2.1 HSM.out.2.2.2.2.1)
      have HNX : Hid (c.xs ≠ []) := fun e => hn0 (by rw [← HN.out, e]; rfl)
      have HA3 : Hid (∀ W, (binOp .add 9 (.string ⟨#[32]⟩) (.string (txt (exsL c.xs)))).run Tryz.prog W = .ok (.string (⟨#[32]⟩ ++ txt (exsL c.xs))) W) := fun W => add_op _ _ (by rw [txt_size]; have := HEL.out; show 1 + _ ≤ _; omega) W
      obtain ⟨E1, hE1⟩ : ∃ s, (⟨#[32]⟩ : ByteArray) ++ txt (exsL c.xs) = s := ⟨_, rfl⟩
      have hE1S : E1.data.toList = 32 :: exsL c.xs := by rw [← hE1, ByteArray.data_append, Array.toList_append, txt_list]; rfl
      rw [hE1] at HA3
      have hDTS : T2 ++ E1 = txt (dateL c) := by
        apply bytes_ext
        rw [ByteArray.data_append, Array.toList_append, HT2S.out, hE1S, txt_list]
        unfold dateL
        rw [if_neg HNX.out]
        simp
      have HA4 : Hid (∀ W, (binOp .add 9 (.string T2) (.string E1)).run Tryz.prog W = .ok (.string (T2 ++ E1)) W) := fun W => add_op _ _ (by
        rw [Lib.size_eq T2, HT2S.out, Lib.size_eq E1, hE1S, List.length_append, List.length_cons, List.length_cons]
        have h1 := itoa_len c.t HTB.out
        have h2 := itoa_len c.z HZB.out
        have h3 := HEL.out
        omega) W
      rw [hDTS] at HA4
      obtain ⟨DT, hDT⟩ : ∃ s, txt (dateL c) = s := ⟨_, rfl⟩
      rw [hDT] at HA4
      have HDT : Hid (DT = txt (dateL c)) := hDT.symm
      clear hE1 hE1S hDTS hDT hn0
      go_wp2_with fail
      clear hcx
      refine HXX.out.mono ?_
      rintro e w3 ⟨rfl, hb⟩
      have HB3 := Lib.hid (HB2.out.trans (hb.mono HB2.out.size))
      clear hb HXX
      go_wp2_with (first
        | refine wpList_eql (by rfl) .add 9 _ _ _ rfl (.string ⟨#[32]⟩) (.string (txt (exsL c.xs))) rfl rfl (.string E1) (guard_add _ _ _ _) (fun W => HA3.out W) ?_
        | refine wpList_eql (by rfl) .add 9 _ _ _ rfl (.string T2) (.string E1) rfl rfl (.string DT) (guard_add _ _ _ _) (fun W => HA4.out W) ?_)
      clear hgt HA3 HA4
      by_cases hf0 : fn = 0
      · subst hf0
        obtain ⟨hfa, hfc⟩ := HAT.out.fnil HFN.out
        subst hfa hfc
        have HLN : Hid (([⟨(hexOf c.n).toArray⟩, c.u, DT] : List ByteArray).length = 3) := rfl
        obtain ⟨n3, hn3⟩ : ∃ x, 3 + 2 = x := ⟨_, rfl⟩
        have HN3 := Lib.hid hn3
        have HN3B : Hid (n3 ≤ 18006) := by show _ ≤ _; omega
        clear hn3
        refine wp_region_noPanic ?_
        refine wp_region_held_drew (S := fun W => Below w3.heap.size w3 W) (by kernel_rfl) ?_ (fun hHeld => ?_)
        · exact (Below.refl _ _).drew
        refine tkV 0 (v := ?_) (hw := ?_) (h := ?_)
        rotate_left
        · intro W hSW
          go_simp
          try with_reducible rfl
        try simp only [Act.put, List.setIfInBounds_toArray, List.set_cons_zero, List.set_cons_succ]
        refine tkY 1 (hy := (yieldsIf_load_mid (by rfl) 29 _ rfl w.heap.size 0 rfl (U8 c.n) (.array 20 5) (fun W hSW => (HCW.out W (HB3.out.trans (hSW.mono HB3.out.size))).id) Tryz.underlying29 rfl HIDI.out)) (h := ?_)
        try simp only [Act.put, List.setIfInBounds_toArray, List.set_cons_zero, List.set_cons_succ]
        refine tkV 3 (v := ?_) (hw := ?_) (h := ?_)
        rotate_left
        · intro W hSW
          go_simp
          try with_reducible rfl
        try simp only [Act.put, List.setIfInBounds_toArray, List.set_cons_zero, List.set_cons_succ]
        refine tkY 4 (hy := (yieldsIf_load_str (by rfl) 9 _ rfl w.heap.size 20 rfl c.u (fun W hSW => (HCW.out W (HB3.out.trans (hSW.mono HB3.out.size))).user) Tryz.underlying9)) (h := ?_)
        try simp only [Act.put, List.setIfInBounds_toArray, List.set_cons_zero, List.set_cons_succ]
        refine tkV 5 (v := ?_) (hw := ?_) (h := ?_)
        rotate_left
        · intro W hSW
          go_simp
          try with_reducible rfl
        try simp only [Act.put, List.setIfInBounds_toArray, List.set_cons_zero, List.set_cons_succ]
        refine tkV 7 (v := ?_) (hw := ?_) (h := ?_)
        rotate_left
        · intro W hSW
          go_simp
          try with_reducible rfl
        try simp only [Act.put, List.setIfInBounds_toArray, List.set_cons_zero, List.set_cons_succ]
        refine tkY 8 (hy := (yieldsIf_load_sl (by rfl) 38 _ rfl w.heap.size 24 rfl (.slice none 0 0) (fun W hSW => (HCW.out W (HB3.out.trans (hSW.mono HB3.out.size))).files) Tryz.underlying38)) (h := ?_)
        try simp only [Act.put, List.setIfInBounds_toArray, List.set_cons_zero, List.set_cons_succ]
        refine wpAnyH_ready (rs := [2]) (by kernel_rfl) (by simp) ?_
        refine AllReadyH.cons (by simp only [List.getElem?_toArray, List.getElem?_cons_succ, List.getElem?_cons_zero]; rfl) (fun K hK => ?_) AllReadyH.nil
        go_simp
        refine (hex_any c.n _ HN20.out HBY.out).mono ?_
        rintro e v1 ⟨rfl, hb⟩
        have hb1 : Below w3.heap.size w3 v1 := (Below.refl _ _).drew.trans hb
        have HV1 := Lib.hid hb1
        clear hb hb1
        go_wp2_with fail
        refine hK.out _ _ (HV1.out) (fun hHeld2 => ?_)
        clear hK K hHeld
        have hHeld := hHeld2
        clear hHeld2
        try simp only [Act.put, List.setIfInBounds_toArray, List.set_cons_zero, List.set_cons_succ]
        refine wpAnyH_ready (rs := [6]) (by kernel_rfl) (by simp) ?_
        refine AllReadyH.cons (by simp only [List.getElem?_toArray, List.getElem?_cons_succ, List.getElem?_cons_zero]; rfl) (fun K hK => ?_) AllReadyH.nil
        refine step_slice (by rfl) _ _ _ rfl #[(0, .string ⟨(hexOf c.n).toArray⟩), (1, .string c.u), (2, .string DT)] (map_three _ _ _ _ _ _ _ rfl rfl rfl) _ _ (slice_three _ _ _ v1) ?_
        have HV2 : Hid (Below w3.heap.size w3 (v1.alloc (.cells #[.string ⟨(hexOf c.n).toArray⟩, .string c.u, .string DT] 9))) := HV1.out.alloc HV1.out.size _
        have HO2 : Hid (OwnG 1 strE 9 (v1.alloc (.cells #[.string ⟨(hexOf c.n).toArray⟩, .string c.u, .string DT] 9)) w3.heap.size (.slice (some ⟨v1.heap.size, 0, none⟩) 3 3) [⟨(hexOf c.n).toArray⟩, c.u, DT]) := own_three v1 _ _ _ _ HV1.out.size
        refine hK.out _ _ (HV2.out) (fun hHeld2 => ?_)
        clear hK K hHeld
        have hHeld := hHeld2
        clear hHeld2
        try simp only [Act.put, List.setIfInBounds_toArray, List.set_cons_zero, List.set_cons_succ]
        refine wpAnyH_ready (rs := [9]) (by kernel_rfl) (by simp) ?_
        refine AllReadyH.cons (by simp only [List.getElem?_toArray, List.getElem?_cons_succ, List.getElem?_cons_zero]; rfl) (fun K hK => ?_) AllReadyH.nil
        refine step_append_none (by rfl) _ _ 38 rfl w3.heap.size 9 elem_str (.slice (some ⟨v1.heap.size, 0, none⟩) 3 3) [⟨(hexOf c.n).toArray⟩, c.u, DT] rfl HO2.out rfl ?_
        have HV4 := HV2
        have HO4 := HO2
        obtain ⟨g4, hg4⟩ : ∃ g, v1.heap.size = g := ⟨_, rfl⟩
        have HG4 := Lib.hid hg4
        refine hK.out _ _ (HV4.out) (fun hHeld2 => ?_)
        clear hK K hHeld
        have hHeld := hHeld2
        clear hHeld2
        try simp only [Act.put, List.setIfInBounds_toArray, List.set_cons_zero, List.set_cons_succ]
        refine tkV 10 (v := ?_) (hw := ?_) (h := ?_)
        rotate_left
        · intro W hSW
          go_simp
          try with_reducible rfl
        try simp only [Act.put, List.setIfInBounds_toArray, List.set_cons_zero, List.set_cons_succ]
        refine wpAnyH_done (by kernel_rfl) ?_ _
        refine NoPanic.normal ?_
        rw [hg4] at HO4 ⊢
        clear hg4
        generalize v1.alloc (.cells #[.string ⟨(hexOf c.n).toArray⟩, .string c.u, .string DT] 9) = w4 at *
        clear hHeld
        have HB4 := Lib.hid (HB3.out.trans (HV4.out.mono HB3.out.size))
        have hcd := (HCW.out w4 HB4.out).desc
        have HOA := Lib.hid (HO4.out.below ((Below.refl w4.heap.size w4).alloc (Nat.le_refl _) (.cells #[.string ⟨#[]⟩, .string c.d] 9)))
        have HVA : Hid (Below w3.heap.size w3 (w4.alloc (.cells #[.string ⟨#[]⟩, .string c.d] 9))) := HV4.out.alloc HV4.out.size _
        go_wp2_with (first
          | refine wpList_slice rfl 38 2 #[(0, _), (1, _)] rfl #[(0, .string ⟨#[]⟩), (1, .string c.d)] (map_two _ _ _ _ _ rfl rfl) _ _ (slice_pair _ _ w4) ?_
          | (refine wpList_append_G elem_str strE_len (by decide) (by decide) strE_one rfl _ _ rfl w3.heap.size (.slice (some ⟨g4, 0, none⟩) 3 3) ([⟨(hexOf c.n).toArray⟩, c.u, DT]) 3 HLN.out rfl HOA.out w4.heap.size 0 2 2 [⟨#[]⟩, c.d] rfl (by decide) rfl (pair_rows w4 _ _) n3 ([⟨(hexOf c.n).toArray⟩, c.u, DT] ++ [⟨#[]⟩, c.d]) HN3.out rfl (by have := HN3B.out; omega) HVA.out.size ?_
             rintro g6 gc6 w6 ho6 hg6 hgg hgl
             have HO6 := Lib.hid ho6
             have HV6 : Hid (Below w3.heap.size w3 w6) := HVA.out.trans (own_off HOA.out HVA.out.size hg6)
             clear ho6 hg6 hgg hgl))
        clear hcd HOA HVA HO4
        have HB6 := Lib.hid (HB3.out.trans (HV6.out.mono HB3.out.size))
        have HB06 := Lib.hid (HB0.out.trans (HB6.out.mono HB0.out.size))
        obtain ⟨hj1, hj2, hj3, hj4⟩ := own_cells HO6.out (by simp)
        have HLL : Hid ([⟨(hexOf c.n).toArray⟩, c.u, DT] ++ [⟨#[]⟩, c.d] = linesB c (txt (dateL c))) := by show _ = _; rw [← HDT.out]; unfold linesB; rw [List.eq_nil_of_length_eq_zero HFN.out]; rfl
        have HPLN := Lib.hid (printL_tiny HSM.out HN20.out)
        have hj5 : (Lib.join (([⟨(hexOf c.n).toArray⟩, c.u, DT] ++ [⟨#[]⟩, c.d]).map (·.data.toList)) (⟨#[10]⟩ : ByteArray).data.toList) = printL c := by rw [HLL.out]; exact lines_print c
        have HJ := Tryz.strings_Join g6 0 gc6 ([⟨(hexOf c.n).toArray⟩, c.u, DT] ++ [⟨#[]⟩, c.d]) ⟨#[10]⟩ w6 hj1 hj2 (by rw [hj3]; have := HN3B.out; omega) (by rw [hj3]; exact hj4) (by rw [hj5]; have := HPLN.out; omega)
        rw [hj5, hj3] at HJ
        have HJ := Lib.hid HJ
        clear hj1 hj2 hj3 hj4 hj5 HO6
        refine HJ.out.mono ?_
        rintro e w7 ⟨rfl, hb⟩
        have HB07 := Lib.hid (HB06.out.trans (hb.mono HB06.out.size))
        clear hb HJ
        have hsz := txt_size (printL c)
        obtain ⟨cp, hcp, hcv⟩ := conv_bytes w7 (txt (printL c))
        have hby := bytes_new w7 (txt (printL c)) (by rw [hsz]; have := HPLN.out; omega)
        rw [hsz] at hcp hcv hby
        have HCP := Lib.hid hcp
        have HBYT := Lib.hid hby
        have HBL : Hid (Below w.heap.size w (Lib.bytesWorld w7 5 (txt (printL c)))) := HB07.out.trans ((Lib.bytesWorld_below _ _ _).mono HB07.out.size)
        clear hcp hby hsz
        have HP : Hid (ChPrint (.returned (.tuple #[.slice (some ⟨w7.heap.size, 0, none⟩) (printL c).length cp, .int .i64 0])) (Lib.bytesWorld w7 5 (txt (printL c))) c) := .inl ⟨HRC.out, _, _, rfl, HCP.out, HBYT.out⟩
        obtain ⟨pl, hpl⟩ : ∃ l, (printL c).length = l := ⟨_, rfl⟩
        rw [hpl] at hcv HP
        clear hpl
        have hcv2 : (convert 9 71 (.string ⟨(printL c).toArray⟩)).run Tryz.prog w7 = .ok (.slice (some ⟨w7.heap.size, 0, none⟩) pl cp) (Lib.bytesWorld w7 5 (txt (printL c))) := hcv
        clear hcv
        go_wp2_with fail
        go_ret2
        exact ⟨HP.out, HBL.out⟩
      · have HF0 : Hid (0 < fn) := by show _ < _; omega
        rcases HAT.out.files with h0 | ⟨b, off, hfa, hFL, hFR⟩
        · exact absurd (h0.symm.trans HFN.out).symm hf0
        subst hfa
        have HFR : Hid (∀ W, Below w0.heap.size w0 W → ∀ (j : Nat) y, c.fs[j]? = some y → W.rangeAt b (off + j * 1) (strE y)) := fun W hW j y hj => range_below (hFR j y hj) (HB0.out.trans (hW.mono HB0.out.size)) hFL
        obtain ⟨n2, hn2⟩ : ∃ x, 3 + fn = x := ⟨_, rfl⟩
        have HN2 := Lib.hid hn2
        have HN2B : Hid (n2 ≤ 18004) := by show _ ≤ _; have := HFB.out; omega
        have HLN : Hid (([⟨(hexOf c.n).toArray⟩, c.u, DT] ++ c.fs).length = n2) := by show _ = _; rw [List.length_append, HFN.out, ← hn2]; rfl
        obtain ⟨n3, hn3⟩ : ∃ x, n2 + 2 = x := ⟨_, rfl⟩
        have HN3 := Lib.hid hn3
        have HN3B : Hid (n3 ≤ 18006) := by show _ ≤ _; have := HN2B.out; omega
        clear hn2 hn3 hFR hFL hf0
        refine wp_region_noPanic ?_
        refine wp_region_held_drew (S := fun W => Below w3.heap.size w3 W) (by kernel_rfl) ?_ (fun hHeld => ?_)
        · exact (Below.refl _ _).drew
        refine tkV 0 (v := ?_) (hw := ?_) (h := ?_)
        rotate_left
        · intro W hSW
          go_simp
          try with_reducible rfl
        try simp only [Act.put, List.setIfInBounds_toArray, List.set_cons_zero, List.set_cons_succ]
        refine tkY 1 (hy := (yieldsIf_load_mid (by rfl) 29 _ rfl w.heap.size 0 rfl (U8 c.n) (.array 20 5) (fun W hSW => (HCW.out W (HB3.out.trans (hSW.mono HB3.out.size))).id) Tryz.underlying29 rfl HIDI.out)) (h := ?_)
        try simp only [Act.put, List.setIfInBounds_toArray, List.set_cons_zero, List.set_cons_succ]
        refine tkV 3 (v := ?_) (hw := ?_) (h := ?_)
        rotate_left
        · intro W hSW
          go_simp
          try with_reducible rfl
        try simp only [Act.put, List.setIfInBounds_toArray, List.set_cons_zero, List.set_cons_succ]
        refine tkY 4 (hy := (yieldsIf_load_str (by rfl) 9 _ rfl w.heap.size 20 rfl c.u (fun W hSW => (HCW.out W (HB3.out.trans (hSW.mono HB3.out.size))).user) Tryz.underlying9)) (h := ?_)
        try simp only [Act.put, List.setIfInBounds_toArray, List.set_cons_zero, List.set_cons_succ]
        refine tkV 5 (v := ?_) (hw := ?_) (h := ?_)
        rotate_left
        · intro W hSW
          go_simp
          try with_reducible rfl
        try simp only [Act.put, List.setIfInBounds_toArray, List.set_cons_zero, List.set_cons_succ]
        refine tkV 7 (v := ?_) (hw := ?_) (h := ?_)
        rotate_left
        · intro W hSW
          go_simp
          try with_reducible rfl
        try simp only [Act.put, List.setIfInBounds_toArray, List.set_cons_zero, List.set_cons_succ]
        refine tkY 8 (hy := (yieldsIf_load_sl (by rfl) 38 _ rfl w.heap.size 24 rfl (.slice (some ⟨b, off, none⟩) fn fc) (fun W hSW => (HCW.out W (HB3.out.trans (hSW.mono HB3.out.size))).files) Tryz.underlying38)) (h := ?_)
        try simp only [Act.put, List.setIfInBounds_toArray, List.set_cons_zero, List.set_cons_succ]
        refine wpAnyH_ready (rs := [2]) (by kernel_rfl) (by simp) ?_
        refine AllReadyH.cons (by simp only [List.getElem?_toArray, List.getElem?_cons_succ, List.getElem?_cons_zero]; rfl) (fun K hK => ?_) AllReadyH.nil
        go_simp
        refine (hex_any c.n _ HN20.out HBY.out).mono ?_
        rintro e v1 ⟨rfl, hb⟩
        have hb1 : Below w3.heap.size w3 v1 := (Below.refl _ _).drew.trans hb
        have HV1 := Lib.hid hb1
        clear hb hb1
        go_wp2_with fail
        refine hK.out _ _ (HV1.out) (fun hHeld2 => ?_)
        clear hK K hHeld
        have hHeld := hHeld2
        clear hHeld2
        try simp only [Act.put, List.setIfInBounds_toArray, List.set_cons_zero, List.set_cons_succ]
        refine wpAnyH_ready (rs := [6]) (by kernel_rfl) (by simp) ?_
        refine AllReadyH.cons (by simp only [List.getElem?_toArray, List.getElem?_cons_succ, List.getElem?_cons_zero]; rfl) (fun K hK => ?_) AllReadyH.nil
        refine step_slice (by rfl) _ _ _ rfl #[(0, .string ⟨(hexOf c.n).toArray⟩), (1, .string c.u), (2, .string DT)] (map_three _ _ _ _ _ _ _ rfl rfl rfl) _ _ (slice_three _ _ _ v1) ?_
        have HV2 : Hid (Below w3.heap.size w3 (v1.alloc (.cells #[.string ⟨(hexOf c.n).toArray⟩, .string c.u, .string DT] 9))) := HV1.out.alloc HV1.out.size _
        have HO2 : Hid (OwnG 1 strE 9 (v1.alloc (.cells #[.string ⟨(hexOf c.n).toArray⟩, .string c.u, .string DT] 9)) w3.heap.size (.slice (some ⟨v1.heap.size, 0, none⟩) 3 3) [⟨(hexOf c.n).toArray⟩, c.u, DT]) := own_three v1 _ _ _ _ HV1.out.size
        refine hK.out _ _ (HV2.out) (fun hHeld2 => ?_)
        clear hK K hHeld
        have hHeld := hHeld2
        clear hHeld2
        try simp only [Act.put, List.setIfInBounds_toArray, List.set_cons_zero, List.set_cons_succ]
        refine wpAnyH_ready (rs := [9]) (by kernel_rfl) (by simp) ?_
        refine AllReadyH.cons (by simp only [List.getElem?_toArray, List.getElem?_cons_succ, List.getElem?_cons_zero]; rfl) (fun K hK => ?_) AllReadyH.nil
        refine step_append_G elem_str strE_len (by decide) (by decide) strE_one (by rfl) _ _ rfl w3.heap.size (.slice (some ⟨v1.heap.size, 0, none⟩) 3 3) [⟨(hexOf c.n).toArray⟩, c.u, DT] 3 rfl rfl HO2.out b off fn fc c.fs HFN.out HF0.out rfl (fun j y hj => HFR.out _ (HB3.out.trans (HV2.out.mono HB3.out.size)) j y hj) n2 ([⟨(hexOf c.n).toArray⟩, c.u, DT] ++ c.fs) HN2.out rfl (by have := HN2B.out; omega) HV2.out.size ?_
        rintro g4 gc4 w4 ho4 hg4 hgg hgl
        have HO4 := Lib.hid ho4
        have HV4 : Hid (Below w3.heap.size w3 w4) := HV2.out.trans (own_off HO2.out HV2.out.size hg4)
        clear ho4 hg4 hgg hgl
        refine hK.out _ _ (HV4.out) (fun hHeld2 => ?_)
        clear hK K hHeld
        have hHeld := hHeld2
        clear hHeld2
        try simp only [Act.put, List.setIfInBounds_toArray, List.set_cons_zero, List.set_cons_succ]
        refine tkV 10 (v := ?_) (hw := ?_) (h := ?_)
        rotate_left
        · intro W hSW
          go_simp
          try with_reducible rfl
        try simp only [Act.put, List.setIfInBounds_toArray, List.set_cons_zero, List.set_cons_succ]
        refine wpAnyH_done (by kernel_rfl) ?_ _
        refine NoPanic.normal ?_
        clear hHeld
        have HB4 := Lib.hid (HB3.out.trans (HV4.out.mono HB3.out.size))
        have hcd := (HCW.out w4 HB4.out).desc
        have HOA := Lib.hid (HO4.out.below ((Below.refl w4.heap.size w4).alloc (Nat.le_refl _) (.cells #[.string ⟨#[]⟩, .string c.d] 9)))
        have HVA : Hid (Below w3.heap.size w3 (w4.alloc (.cells #[.string ⟨#[]⟩, .string c.d] 9))) := HV4.out.alloc HV4.out.size _
        go_wp2_with (first
          | refine wpList_slice rfl 38 2 #[(0, _), (1, _)] rfl #[(0, .string ⟨#[]⟩), (1, .string c.d)] (map_two _ _ _ _ _ rfl rfl) _ _ (slice_pair _ _ w4) ?_
          | (refine wpList_append_G elem_str strE_len (by decide) (by decide) strE_one rfl _ _ rfl w3.heap.size (.slice (some ⟨g4, 0, none⟩) n2 gc4) ([⟨(hexOf c.n).toArray⟩, c.u, DT] ++ c.fs) n2 HLN.out rfl HOA.out w4.heap.size 0 2 2 [⟨#[]⟩, c.d] rfl (by decide) rfl (pair_rows w4 _ _) n3 ([⟨(hexOf c.n).toArray⟩, c.u, DT] ++ c.fs ++ [⟨#[]⟩, c.d]) HN3.out rfl (by have := HN3B.out; omega) HVA.out.size ?_
             rintro g6 gc6 w6 ho6 hg6 hgg hgl
             have HO6 := Lib.hid ho6
             have HV6 : Hid (Below w3.heap.size w3 w6) := HVA.out.trans (own_off HOA.out HVA.out.size hg6)
             clear ho6 hg6 hgg hgl))
        clear hcd HOA HVA HO4
        have HB6 := Lib.hid (HB3.out.trans (HV6.out.mono HB3.out.size))
        have HB06 := Lib.hid (HB0.out.trans (HB6.out.mono HB0.out.size))
        obtain ⟨hj1, hj2, hj3, hj4⟩ := own_cells HO6.out (by simp)
        have HLL : Hid ([⟨(hexOf c.n).toArray⟩, c.u, DT] ++ c.fs ++ [⟨#[]⟩, c.d] = linesB c (txt (dateL c))) := by show _ = _; rw [← HDT.out]; unfold linesB; rfl
        have HPLN := Lib.hid (printL_tiny HSM.out HN20.out)
        have hj5 : (Lib.join (([⟨(hexOf c.n).toArray⟩, c.u, DT] ++ c.fs ++ [⟨#[]⟩, c.d]).map (·.data.toList)) (⟨#[10]⟩ : ByteArray).data.toList) = printL c := by rw [HLL.out]; exact lines_print c
        have HJ := Tryz.strings_Join g6 0 gc6 ([⟨(hexOf c.n).toArray⟩, c.u, DT] ++ c.fs ++ [⟨#[]⟩, c.d]) ⟨#[10]⟩ w6 hj1 hj2 (by rw [hj3]; have := HN3B.out; omega) (by rw [hj3]; exact hj4) (by rw [hj5]; have := HPLN.out; omega)
        rw [hj5, hj3] at HJ
        have HJ := Lib.hid HJ
        clear hj1 hj2 hj3 hj4 hj5 HO6
        refine HJ.out.mono ?_
        rintro e w7 ⟨rfl, hb⟩
        have HB07 := Lib.hid (HB06.out.trans (hb.mono HB06.out.size))
        clear hb HJ
        have hsz := txt_size (printL c)
        obtain ⟨cp, hcp, hcv⟩ := conv_bytes w7 (txt (printL c))
        have hby := bytes_new w7 (txt (printL c)) (by rw [hsz]; have := HPLN.out; omega)
        rw [hsz] at hcp hcv hby
        have HCP := Lib.hid hcp
        have HBYT := Lib.hid hby
        have HBL : Hid (Below w.heap.size w (Lib.bytesWorld w7 5 (txt (printL c)))) := HB07.out.trans ((Lib.bytesWorld_below _ _ _).mono HB07.out.size)
        clear hcp hby hsz
        have HP : Hid (ChPrint (.returned (.tuple #[.slice (some ⟨w7.heap.size, 0, none⟩) (printL c).length cp, .int .i64 0])) (Lib.bytesWorld w7 5 (txt (printL c))) c) := .inl ⟨HRC.out, _, _, rfl, HCP.out, HBYT.out⟩
        obtain ⟨pl, hpl⟩ : ∃ l, (printL c).length = l := ⟨_, rfl⟩
        rw [hpl] at hcv HP
        clear hpl
        have hcv2 : (convert 9 71 (.string ⟨(printL c).toArray⟩)).run Tryz.prog w7 = .ok (.slice (some ⟨w7.heap.size, 0, none⟩) pl cp) (Lib.bytesWorld w7 5 (txt (printL c))) := hcv
        clear hcv
        go_wp2_with fail
        go_ret2
        exact ⟨HP.out, HBL.out⟩
end Go.Proofs.YtkpiinjhcckhfaaGreatDoor
