/- (change.Change).right: the walk. -/
import Derived.Test.YtkpiinjhcckhfaaGreatDoorChKey
import Derived.Laws.Cover1
namespace Go.Proofs.YtkpiinjhcckhfaaGreatDoor
open Go.RowKit Plain
set_option linter.unusedVariables false
set_option linter.unusedSimpArgs false
theorem geq_str (a b : ByteArray) (bl : Bool) (h : Op.bytesLess a.toList b.toList = bl) (W : World) : (binOp .geq 9 (.string a) (.string b)).run Tryz.prog W = .ok (.bool (!bl)) W := by
  rw [binOp_string_geq, h]; rfl
theorem yieldsIf_load_str {P : Program} {ops : Array Oper} {S : World → Prop} {op : Oper} {a : Act} (hw : Region.wanted op (yielded ops a.tmps) = true) (ty : TypeId) (x : Operand) (ho : op.op = .load ty x)
    (b o : Nat) (hx : a.eval x = .pointer (some ⟨b, o, none⟩)) (s : ByteArray) (hS : ∀ w, S w → w.cell? ⟨b, o, none⟩ = some (.string s)) (hu : P.underlying ty = some .string) : YieldsIf P ops S op (.string s) a :=
  .inl ⟨hw, fun W hW => by
    have hc := hS W hW
    unfold execOp
    simp only [ho, hx]
    simp [Instr.loadAt, Instr.sureAddr, loadVar, isAgg, run_underlying hu, hc]⟩
theorem yieldsIf_load_int {P : Program} {ops : Array Oper} {S : World → Prop} {op : Oper} {a : Act} (hw : Region.wanted op (yielded ops a.tmps) = true) (ty : TypeId) (x : Operand) (ho : op.op = .load ty x)
    (b o : Nat) (hx : a.eval x = .pointer (some ⟨b, o, none⟩)) (z : Int) (hS : ∀ w, S w → w.cell? ⟨b, o, none⟩ = some (.int .i64 z)) (hu : P.underlying ty = some (.int .i64)) : YieldsIf P ops S op (.int .i64 z) a :=
  .inl ⟨hw, fun W hW => by
    have hc := hS W hW
    unfold execOp
    simp only [ho, hx]
    simp [Instr.loadAt, Instr.sureAddr, loadVar, isAgg, run_underlying hu, hc]⟩
theorem yieldsIf_load_sl {P : Program} {ops : Array Oper} {S : World → Prop} {op : Oper} {a : Act} (hw : Region.wanted op (yielded ops a.tmps) = true) (ty : TypeId) (x : Operand) (ho : op.op = .load ty x)
    (b o : Nat) (hx : a.eval x = .pointer (some ⟨b, o, none⟩)) (v : Value) (hS : ∀ w, S w → w.cell? ⟨b, o, none⟩ = some v) {e : TypeId} (hu : P.underlying ty = some (.slice e)) : YieldsIf P ops S op v a :=
  .inl ⟨hw, fun W hW => by
    have hc := hS W hW
    unfold execOp
    simp only [ho, hx]
    simp [Instr.loadAt, Instr.sureAddr, loadVar, isAgg, run_underlying hu, hc]⟩
theorem yieldsIf_eql {P : Program} {ops : Array Oper} {S : World → Prop} {op : Oper} {a : Act} (hw : Region.wanted op (yielded ops a.tmps) = true) (b : BinOp) (ty : TypeId) (x y : Operand) (tz : TypeId) (ho : op.op = .binOp b ty x y tz)
    (u1 u2 : Value) (h1 : a.eval x = u1) (h2 : a.eval y = u2) (v : Value) (hg : ∀ W, (eqGuard b ty x y u1 u2).run P W = .ok () W) (hr : ∀ W, (binOp b ty u1 u2).run P W = .ok v W) : YieldsIf P ops S op v a := by
  refine .inl ⟨hw, fun W hS => ?_⟩
  unfold execOp
  simp only [ho, h1, h2, Sem.run_bind, hg, hr, Result.andThen_ok]
  rfl
def zextA : Array Value := #[.string ⟨#[]⟩, .string ⟨#[]⟩]
theorem zero_ext (W : World) : (zeroValue 79).run Tryz.prog W = .ok (.agg zextA) W := by kernel_rfl
theorem info_ext (x : ByteArray × ByteArray) : (Tryz.prog.info? 79).map (·.size) = some (extE x).length := by show _ = some 2; kernel_rfl
theorem info_extA (x : ByteArray × ByteArray) : (Tryz.prog.info? 79).map (·.size) = some (extE x).toArray.size := by show _ = some 2; kernel_rfl
theorem extA_one (x : ByteArray × ByteArray) : (extE x).toArray.all (·.oneCell') = true := by
  rw [Array.all_eq_true_iff_forall_mem]; intro v hv; exact extE_one x v (by simpa using hv)
theorem index_byte_has (l : List UInt8) (c : UInt8) : decide (0 ≤ Lib.indexByte l c) = l.contains c := by
  induction l with
  | nil => rfl
  | cons b l ih =>
    have hge := Lib.indexByte_ge l c
    unfold Lib.indexByte
    rw [List.contains_cons, ← ih]
    by_cases h : b = c
    · subst h; simp
    · have e1 : (b == c) = false := beq_eq_false_iff_ne.2 h
      have e2 : (c == b) = false := beq_eq_false_iff_ne.2 (fun e => h e.symm)
      rw [e1, e2]
      simp only [Bool.false_eq_true, if_false, Bool.false_or]
      split
      · rename_i e
        rw [beq_iff_eq.1 e]
      · rename_i e
        have : Lib.indexByte l c ≠ -1 := fun e2 => e (beq_iff_eq.2 e2)
        rw [decide_eq_decide]
        omega
set_option maxRecDepth 100000 in
set_option maxHeartbeats 32000000 in
theorem chright_any (c : CX) (xa : Option Addr) (xc : Nat) (fa : Option Addr) (fc : Nat) (w : World) (h : ChAt w c xa xc fa fc) (hs : ChSmall c) (hE : EnvC w) :
    Calls Tryz.prog 59 #[.agg (chV c xa xc fa fc)] w fun e w' => e = .returned (.bool (rightC c)) ∧ Below w.heap.size w w' := by
  have HSM := Lib.hid hs
  have HE := Lib.hid hE
  obtain ⟨n, hN⟩ : ∃ n, c.xs.length = n := ⟨_, rfl⟩
  obtain ⟨fn, hFN⟩ : ∃ n, c.fs.length = n := ⟨_, rfl⟩
  have HN := Lib.hid hN
  have HFN := Lib.hid hFN
  have HNB : Hid (n ≤ 100000) := by rw [← hN]; exact hs.2.2.1
  have HFB : Hid (fn ≤ 100000) := by rw [← hFN]; exact hs.2.2.2.1
  have HAX := Lib.hid h.exts
  have HAF := Lib.hid h.files
  unfold chV
  rw [hN, hFN]
  have HB0 : Hid (Below w.heap.size w (w.alloc (.cells (chA c (.slice xa n xc) (.slice fa fn fc)) 40))) := (Below.refl _ _).alloc (Nat.le_refl _) _
  have HCW0 : Hid (ChRow (w.alloc (.cells (chA c (.slice xa n xc) (.slice fa fn fc)) 40)) w.heap.size c (.slice xa n xc) (.slice fa fn fc)) := ChRow.of (heap_alloc_new _ _) h.n20
  have hcu := HCW0.out.user
  have hct := HCW0.out.time
  have hcz := HCW0.out.zone
  have hcx := HCW0.out.exts
  obtain ⟨e1, he1⟩ : ∃ e, (c.u.data.toList == ([] : List UInt8)) = e := ⟨_, rfl⟩
  obtain ⟨b10, hb10⟩ : ∃ e, decide (0 ≤ Lib.indexByte c.u.data.toList 10) = e := ⟨_, rfl⟩
  have HB10 := Lib.hid hb10
  have HE1 : Hid (∀ W, (binOp .eql 9 (.string c.u) (.string ⟨#[]⟩)).run Tryz.prog W = .ok (.bool e1) W) := fun W => by rw [str_eql, ← he1]
  have HH : Hid (headOk c = (!e1 && !b10 && decide (0 ≤ c.t) && decide (c.t ≤ 4611686018427387903) && decide (-86399 ≤ c.z) && decide (c.z ≤ 86399))) := by
    show _ = _
    unfold headOk
    have : c.u.data.toList.isEmpty = e1 := by rw [← he1]; cases c.u.data.toList <;> rfl
    rw [this, ← index_byte_has, hb10]
  clear hN hFN h hs hE he1 hb10
  have HSZ0 : Hid (w.heap.size < (w.alloc (.cells (chA c (.slice xa n xc) (.slice fa fn fc)) 40)).heap.size) := by show _ < _; simp
  cases e1
  · go_enter Tryz.func59, Tryz.ntmps59
    have H1 := HE1
    go_wp2_with (first
      | refine wpList_eql (by rfl) .eql 9 _ _ _ rfl (.string c.u) (.string ⟨#[]⟩) rfl rfl (.bool false) (guard_eq _ _ _ _) H1.out ?_)
    generalize w.alloc (.cells (chA c (.slice xa n xc) (.slice fa fn fc)) 40) = w0 at *
    have HCW : Hid (∀ W, Below w0.heap.size w0 W → ChRow W w.heap.size c (.slice xa n xc) (.slice fa fn fc)) := fun W hW => HCW0.out.below HSZ0.out hW
    refine (Tryz.strings_Contains_one c.u 10 w0).mono ?_
    rintro e w' ⟨rfl, rfl⟩
    rename World => w0
    rw [HB10.out]
    clear HB10
    cases b10
    · by_cases h3 : c.t < 0
      · have HF : Hid (rightC c = false) := by show _ = _; unfold rightC; rw [HH.out, decide_eq_false (by omega : ¬ 0 ≤ c.t)]; simp
        go_wp2_with fail
        go_ret
        exact ⟨by rw [HF.out]; rfl, HB0.out⟩
      by_cases h4 : 4611686018427387903 < c.t
      · have HF : Hid (rightC c = false) := by show _ = _; unfold rightC; rw [HH.out, decide_eq_false (by omega : ¬ c.t ≤ 4611686018427387903)]; simp
        go_wp2_with fail
        go_ret
        exact ⟨by rw [HF.out]; rfl, HB0.out⟩
      by_cases h5 : c.z < -86399
      · have HF : Hid (rightC c = false) := by show _ = _; unfold rightC; rw [HH.out, decide_eq_false (by omega : ¬ -86399 ≤ c.z)]; simp
        go_wp2_with fail
        go_ret
        exact ⟨by rw [HF.out]; rfl, HB0.out⟩
      by_cases h6 : 86399 < c.z
      · have HF : Hid (rightC c = false) := by show _ = _; unfold rightC; rw [HH.out, decide_eq_false (by omega : ¬ c.z ≤ 86399)]; simp
        go_wp2_with fail
        go_ret
        exact ⟨by rw [HF.out]; rfl, HB0.out⟩
      have HHD : Hid (headOk c = true) := by
        show _ = _
        rw [HH.out, decide_eq_true (by omega : 0 ≤ c.t), decide_eq_true (by omega : c.t ≤ 4611686018427387903), decide_eq_true (by omega : -86399 ≤ c.z), decide_eq_true (by omega : c.z ≤ 86399)]; rfl
      go_wp2_with fail
      clear hcu hct hcz hcx h3 h4 h5 h6 HH HE1
      go_loopw [38] (fun i wr => ∃ k : Nat, k ≤ n ∧ i = .int .i64 (k : Int) ∧ (∀ i x', i < k → c.xs[i]? = some x' → atG extOk (·.1) c.xs i x' = true) ∧ Below w0.heap.size w0 wr) (fun i _ => n - (intOf i).toNat)
      case atStart => exact ⟨0, Nat.zero_le _, rfl, fun i x' hi => by omega, Below.refl _ _⟩
      case round =>
        obtain ⟨k, hk, rfl, hok, hb⟩ := hrel
        have HOK := Lib.hid hok
        have HBW := Lib.hid hb
        have WK := Lib.hid (next_int k (by have := HNB.out; omega))
        clear hok hb
        by_cases hkn : k < n
        · have hki : (k : Int) < (n : Int) := by omega
          have HKN := Lib.hid hkn
          rcases HAX.out with h0 | ⟨b, off, rfl, hbl, hc⟩
          · rw [HN.out] at h0; omega
          have HROW : Hid (∀ (j : Nat) y, c.xs[j]? = some y → ∀ W, Below w0.heap.size w0 W → W.rangeAt b (off + j * 2) (extE y)) := fun j y hj W hW => range_below (hc j y hj) (HB0.out.trans (hW.mono HB0.out.size)) hbl
          obtain ⟨x, hp⟩ : ∃ x, c.xs[k]? = some x := ⟨_, List.getElem?_eq_getElem (by rw [HN.out]; exact hkn)⟩
          have HP := Lib.hid hp
          have HXS : Hid (x.1.size ≤ 100000) := (HSM.out.2.2.2.2.1 x (List.mem_of_getElem? hp)).1
          have HRX := Lib.hid (HROW.out k x hp wr HBW.out)
          have hze := zero_ext
          have HZX : Hid ((wr.alloc (.cells zextA 79)).heap[wr.heap.size]? = some (.cells zextA 79 (0, 0))) := heap_alloc_new _ _
          have HXA : Hid (((wr.alloc (.cells zextA 79)).setRow wr.heap.size (extE x).toArray).heap[wr.heap.size]? = some (.cells (extE x).toArray 79 (0, 0))) := setRow_heap _ _ _ _ _ _ HZX.out
          have HBS : Hid (Below wr.heap.size wr ((wr.alloc (.cells zextA 79)).setRow wr.heap.size (extE x).toArray)) := below_setRow ((Below.refl _ _).alloc (Nat.le_refl _) _) (Nat.le_refl _) _
          clear hp hbl hc hkn hk
          unfold zextA at hze
          go_wp2_with (first
            | refine wpList_load_mid rfl 79 _ rfl b (off + k * 2) rfl (extE x) _ HRX.out Tryz.underlying79 rfl (info_ext x) ?_
            | refine wpList_store_row rfl 79 _ _ rfl wr.heap.size (extE x).toArray rfl rfl 79 zextA HZX.out (info_extA x) rfl (extA_one x) ?_)
          have hw3 : (wr.alloc (.cells #[.string ⟨#[]⟩, .string ⟨#[]⟩] 79)).setRow wr.heap.size (extE x).toArray = (wr.alloc (.cells zextA 79)).setRow wr.heap.size (extE x).toArray := rfl
          try rw [hw3]
          clear hw3 HZX hze HRX
          have HBW3 := Lib.hid (HBW.out.trans (HBS.out.mono HBW.out.size))
          obtain ⟨bx, hbx⟩ : ∃ b, wr.heap.size = b := ⟨_, rfl⟩
          rw [hbx] at HXA ⊢
          simp only [hbx] at HBW3
          clear HBS
          generalize (wr.alloc (.cells zextA 79)).setRow bx (extE x).toArray = w3 at *
          have HLX : Hid (bx < w3.heap.size) := (Array.getElem?_eq_some_iff.1 HXA.out).1
          have HX0 : Hid (w3.cell? ⟨bx, 0, none⟩ = some (.string x.1)) := by show _ = _; rw [cell_of_row _ _ _ _ _ _ HXA.out]; rfl
          clear hbx
          cases hkb : keyB x.1.data.toList
          · have HKB := Lib.hid hkb
            have HBAD : Hid (atG extOk (·.1) c.xs k x = false) := atG_no hkb
            clear hkb
            go_wp2_with fail
            refine wp_region_noPanic ?_
            refine wp_region_held_drew (S := fun W => Below w3.heap.size w3 W) (by kernel_rfl) ?_ (fun hHeld => ?_)
            · exact (Below.refl _ _).drew
            refine tkV 0 (v := ?_) (hw := ?_) (h := ?_)
            rotate_left
            · intro W hSW
              go_simp
              try with_reducible rfl
            try simp only [Act.put, List.setIfInBounds_toArray, List.set_cons_zero, List.set_cons_succ]
            refine tkY 1 (hy := (yieldsIf_load_str (by rfl) 9 _ rfl bx 0 rfl x.1 (fun W hSW => (hSW.cell (p := ⟨bx, 0, none⟩) HLX.out).trans HX0.out) Tryz.underlying9)) (h := ?_)
            try simp only [Act.put, List.setIfInBounds_toArray, List.set_cons_zero, List.set_cons_succ]
            refine wpAnyH_ready (rs := [2]) (by kernel_rfl) (by simp) ?_
            refine AllReadyH.cons (by simp only [List.getElem?_toArray, List.getElem?_cons_succ, List.getElem?_cons_zero]; rfl) (fun K hK => ?_) AllReadyH.nil
            go_simp
            refine (rightKey_any x.1 _ HXS.out).mono ?_
            rintro e v1 ⟨rfl, hb⟩
            rw [HKB.out]
            have hb1 : Below w3.heap.size w3 v1 := (Below.refl _ _).drew.trans hb
            have HB1 := Lib.hid hb1
            clear hb hb1
            go_wp2_with fail
            refine hK.out _ _ (HB1.out) (fun hHeld2 => ?_)
            clear hK K hHeld
            have hHeld := hHeld2
            clear hHeld2
            try simp only [Act.put, List.setIfInBounds_toArray, List.set_cons_zero, List.set_cons_succ]
            refine tkV 3 (v := ?_) (hw := ?_) (h := ?_)
            rotate_left
            · intro W hSW
              go_simp
              try with_reducible rfl
            try simp only [Act.put, List.setIfInBounds_toArray, List.set_cons_zero, List.set_cons_succ]
            refine tkV 4 (v := ?_) (hw := ?_) (h := ?_)
            rotate_left
            · intro W hSW
              go_simp
              try with_reducible rfl
            try simp only [Act.put, List.setIfInBounds_toArray, List.set_cons_zero, List.set_cons_succ]
            refine tkN 5 (h := ?_)
            try simp only [Act.put, List.setIfInBounds_toArray, List.set_cons_zero, List.set_cons_succ]
            refine tkN 6 (h := ?_)
            try simp only [Act.put, List.setIfInBounds_toArray, List.set_cons_zero, List.set_cons_succ]
            refine tkN 7 (h := ?_)
            try simp only [Act.put, List.setIfInBounds_toArray, List.set_cons_zero, List.set_cons_succ]
            refine tkN 8 (h := ?_)
            try simp only [Act.put, List.setIfInBounds_toArray, List.set_cons_zero, List.set_cons_succ]
            refine tkN 9 (h := ?_)
            try simp only [Act.put, List.setIfInBounds_toArray, List.set_cons_zero, List.set_cons_succ]
            refine tkN 10 (h := ?_)
            try simp only [Act.put, List.setIfInBounds_toArray, List.set_cons_zero, List.set_cons_succ]
            refine tkN 11 (h := ?_)
            try simp only [Act.put, List.setIfInBounds_toArray, List.set_cons_zero, List.set_cons_succ]
            refine tkN 12 (h := ?_)
            try simp only [Act.put, List.setIfInBounds_toArray, List.set_cons_zero, List.set_cons_succ]
            refine tkN 13 (h := ?_)
            try simp only [Act.put, List.setIfInBounds_toArray, List.set_cons_zero, List.set_cons_succ]
            refine tkN 14 (h := ?_)
            try simp only [Act.put, List.setIfInBounds_toArray, List.set_cons_zero, List.set_cons_succ]
            refine tkN 15 (h := ?_)
            try simp only [Act.put, List.setIfInBounds_toArray, List.set_cons_zero, List.set_cons_succ]
            refine tkN 16 (h := ?_)
            try simp only [Act.put, List.setIfInBounds_toArray, List.set_cons_zero, List.set_cons_succ]
            refine tkN 17 (h := ?_)
            try simp only [Act.put, List.setIfInBounds_toArray, List.set_cons_zero, List.set_cons_succ]
            refine tkN 18 (h := ?_)
            try simp only [Act.put, List.setIfInBounds_toArray, List.set_cons_zero, List.set_cons_succ]
            refine tkV 19 (v := ?_) (hw := ?_) (h := ?_)
            rotate_left
            · intro W hSW
              go_simp
              try with_reducible rfl
            try simp only [Act.put, List.setIfInBounds_toArray, List.set_cons_zero, List.set_cons_succ]
            refine wpAnyH_done (by kernel_rfl) ?_ _
            refine NoPanic.normal ?_
            clear hHeld
            have HF : Hid (rightC c = false) := by show _ = _; unfold rightC; rw [allG_bad HP.out HBAD.out]; simp
            go_wp2_with fail
            (try simp only [Exit.inBlock, Exit.then])
            go_ret
            exact ⟨by rw [HF.out]; rfl, HB0.out.trans ((HBW3.out.trans (HB1.out.mono HBW3.out.size)).mono HB0.out.size)⟩
          · have HKB := Lib.hid hkb
            have hxo : extOk x = true := hkb
            by_cases hk0 : k = 0
            · have HGOOD : Hid (atG extOk (·.1) c.xs k x = true) := by show _ = _; rw [hk0]; exact atG_zero hxo
              have hgt : ¬ (0 : Int) < (k : Int) := by omega
              have hgt2 : ¬ 0 < k := by omega
              have hgt3 : decide ((0 : Int) < (k : Int)) = false := decide_eq_false hgt
              clear hk0 hkb hxo
              go_wp2_with fail
              refine wp_region_noPanic ?_
              refine wp_region_held_drew (S := fun W => Below w3.heap.size w3 W) (by kernel_rfl) ?_ (fun hHeld => ?_)
              · exact (Below.refl _ _).drew
              refine tkV 0 (v := ?_) (hw := ?_) (h := ?_)
              rotate_left
              · intro W hSW
                go_simp
                try with_reducible rfl
              try simp only [Act.put, List.setIfInBounds_toArray, List.set_cons_zero, List.set_cons_succ]
              refine tkY 1 (hy := (yieldsIf_load_str (by rfl) 9 _ rfl bx 0 rfl x.1 (fun W hSW => (hSW.cell (p := ⟨bx, 0, none⟩) HLX.out).trans HX0.out) Tryz.underlying9)) (h := ?_)
              try simp only [Act.put, List.setIfInBounds_toArray, List.set_cons_zero, List.set_cons_succ]
              refine wpAnyH_ready (rs := [2]) (by kernel_rfl) (by simp) ?_
              refine AllReadyH.cons (by simp only [List.getElem?_toArray, List.getElem?_cons_succ, List.getElem?_cons_zero]; rfl) (fun K hK => ?_) AllReadyH.nil
              go_simp
              refine (rightKey_any x.1 _ HXS.out).mono ?_
              rintro e v1 ⟨rfl, hb⟩
              rw [HKB.out]
              have hb1 : Below w3.heap.size w3 v1 := (Below.refl _ _).drew.trans hb
              have HB1 := Lib.hid hb1
              clear hb hb1
              go_wp2_with fail
              refine hK.out _ _ (HB1.out) (fun hHeld2 => ?_)
              clear hK K hHeld
              have hHeld := hHeld2
              clear hHeld2
              try simp only [Act.put, List.setIfInBounds_toArray, List.set_cons_zero, List.set_cons_succ]
              refine tkV 3 (v := ?_) (hw := ?_) (h := ?_)
              rotate_left
              · intro W hSW
                go_simp
                try with_reducible rfl
              try simp only [Act.put, List.setIfInBounds_toArray, List.set_cons_zero, List.set_cons_succ]
              refine tkV 4 (v := ?_) (hw := ?_) (h := ?_)
              rotate_left
              · intro W hSW
                go_simp
                try with_reducible rfl
              try simp only [Act.put, List.setIfInBounds_toArray, List.set_cons_zero, List.set_cons_succ]
              refine tkV 5 (v := ?_) (hw := ?_) (h := ?_)
              rotate_left
              · intro W hSW
                go_simp
                try with_reducible rfl
              try simp only [Act.put, List.setIfInBounds_toArray, List.set_cons_zero, List.set_cons_succ]
              refine tkV 6 (v := ?_) (hw := ?_) (h := ?_)
              rotate_left
              · intro W hSW
                go_simp
                try with_reducible rfl
              try simp only [Act.put, List.setIfInBounds_toArray, List.set_cons_zero, List.set_cons_succ]
              refine tkV 7 (v := ?_) (hw := ?_) (h := ?_)
              rotate_left
              · intro W hSW
                go_simp
                try with_reducible rfl
              try simp only [Act.put, List.setIfInBounds_toArray, List.set_cons_zero, List.set_cons_succ]
              refine tkN 8 (h := ?_)
              try simp only [Act.put, List.setIfInBounds_toArray, List.set_cons_zero, List.set_cons_succ]
              refine tkN 9 (h := ?_)
              try simp only [Act.put, List.setIfInBounds_toArray, List.set_cons_zero, List.set_cons_succ]
              refine tkN 10 (h := ?_)
              try simp only [Act.put, List.setIfInBounds_toArray, List.set_cons_zero, List.set_cons_succ]
              refine tkN 11 (h := ?_)
              try simp only [Act.put, List.setIfInBounds_toArray, List.set_cons_zero, List.set_cons_succ]
              refine tkN 12 (h := ?_)
              try simp only [Act.put, List.setIfInBounds_toArray, List.set_cons_zero, List.set_cons_succ]
              refine tkN 13 (h := ?_)
              try simp only [Act.put, List.setIfInBounds_toArray, List.set_cons_zero, List.set_cons_succ]
              refine tkN 14 (h := ?_)
              try simp only [Act.put, List.setIfInBounds_toArray, List.set_cons_zero, List.set_cons_succ]
              refine tkN 15 (h := ?_)
              try simp only [Act.put, List.setIfInBounds_toArray, List.set_cons_zero, List.set_cons_succ]
              refine tkN 16 (h := ?_)
              try simp only [Act.put, List.setIfInBounds_toArray, List.set_cons_zero, List.set_cons_succ]
              refine tkN 17 (h := ?_)
              try simp only [Act.put, List.setIfInBounds_toArray, List.set_cons_zero, List.set_cons_succ]
              refine tkV 18 (v := ?_) (hw := ?_) (h := ?_)
              rotate_left
              · intro W hSW
                go_simp
                try with_reducible rfl
              try simp only [Act.put, List.setIfInBounds_toArray, List.set_cons_zero, List.set_cons_succ]
              refine tkV 19 (v := ?_) (hw := ?_) (h := ?_)
              rotate_left
              · intro W hSW
                go_simp
                try with_reducible rfl
              try simp only [Act.put, List.setIfInBounds_toArray, List.set_cons_zero, List.set_cons_succ]
              refine wpAnyH_done (by kernel_rfl) ?_ _
              refine NoPanic.normal ?_
              clear hHeld
              have HOK2 : Hid (∀ i x', i < k + 1 → c.xs[i]? = some x' → atG extOk (·.1) c.xs i x' = true) := fun i x' hi hx' => by
                by_cases hik : i = k
                · subst hik
                  rw [HP.out] at hx'
                  injection hx' with hx'
                  subst hx'
                  exact HGOOD.out
                · exact HOK.out i x' (by omega) hx'
              go_wp2_with fail
              exact ⟨⟨k + 1, HKN.out, by first | rw [WK.out _ rfl] | rfl, HOK2.out, HBW3.out.trans (HB1.out.mono HBW3.out.size)⟩, by have := HKN.out; (first | rw [WK.out _ rfl] | skip); simp [intOf]; omega⟩
            · obtain ⟨j, hj⟩ : ∃ j, k = j + 1 := ⟨k - 1, by omega⟩
              obtain ⟨y, hy⟩ : ∃ y, c.xs[j]? = some y := ⟨_, List.getElem?_eq_getElem (by have := HKN.out; rw [HN.out]; omega)⟩
              have HY := Lib.hid hy
              obtain ⟨bl, hbl⟩ : ∃ r, Op.bytesLess y.1.toList x.1.toList = r := ⟨_, rfl⟩
              have HGE := Lib.hid (geq_str y.1 x.1 bl hbl)
              have HENT : Hid (atG extOk (·.1) c.xs k x = bl) := by show _ = _; rw [hj, atG_succ hxo hy]; exact hbl
              have hsub : wrap64 ((k : Int) - 1) = (j : Int) := by
                rw [show ((k : Int) - 1) = (j : Int) by omega]
                exact IntWalk.wrap64_in _ (by have := HNB.out; have := HKN.out; omega)
              have hsub2 : IntKind.i64.wrap ((k : Int) - 1) = (j : Int) := by
                rw [show ((k : Int) - 1) = (j : Int) by omega]
                exact IntWalk.i64_in _ (by have := HNB.out; have := HKN.out; omega)
              have hjn : (j : Int) < (n : Int) := by have := HKN.out; omega
              have hgt : (0 : Int) < (k : Int) := by omega
              have hgt2 : 0 < k := by omega
              have hgt3 : decide ((0 : Int) < (k : Int)) = true := decide_eq_true hgt
              clear hk0 hj hy hbl hkb hxo
              go_wp2_with fail
              refine wp_region_noPanic ?_
              refine wp_region_held_drew (S := fun W => Below w3.heap.size w3 W) (by kernel_rfl) ?_ (fun hHeld => ?_)
              · exact (Below.refl _ _).drew
              refine tkV 0 (v := ?_) (hw := ?_) (h := ?_)
              rotate_left
              · intro W hSW
                go_simp
                try with_reducible rfl
              try simp only [Act.put, List.setIfInBounds_toArray, List.set_cons_zero, List.set_cons_succ]
              refine tkY 1 (hy := (yieldsIf_load_str (by rfl) 9 _ rfl bx 0 rfl x.1 (fun W hSW => (hSW.cell (p := ⟨bx, 0, none⟩) HLX.out).trans HX0.out) Tryz.underlying9)) (h := ?_)
              try simp only [Act.put, List.setIfInBounds_toArray, List.set_cons_zero, List.set_cons_succ]
              refine wpAnyH_ready (rs := [2]) (by kernel_rfl) (by simp) ?_
              refine AllReadyH.cons (by simp only [List.getElem?_toArray, List.getElem?_cons_succ, List.getElem?_cons_zero]; rfl) (fun K hK => ?_) AllReadyH.nil
              go_simp
              refine (rightKey_any x.1 _ HXS.out).mono ?_
              rintro e v1 ⟨rfl, hb⟩
              rw [HKB.out]
              have hb1 : Below w3.heap.size w3 v1 := (Below.refl _ _).drew.trans hb
              have HB1 := Lib.hid hb1
              clear hb hb1
              go_wp2_with fail
              refine hK.out _ _ (HB1.out) (fun hHeld2 => ?_)
              clear hK K hHeld
              have hHeld := hHeld2
              clear hHeld2
              try simp only [Act.put, List.setIfInBounds_toArray, List.set_cons_zero, List.set_cons_succ]
              refine tkV 3 (v := ?_) (hw := ?_) (h := ?_)
              rotate_left
              · intro W hSW
                go_simp
                try with_reducible rfl
              try simp only [Act.put, List.setIfInBounds_toArray, List.set_cons_zero, List.set_cons_succ]
              refine tkV 4 (v := ?_) (hw := ?_) (h := ?_)
              rotate_left
              · intro W hSW
                go_simp
                try with_reducible rfl
              try simp only [Act.put, List.setIfInBounds_toArray, List.set_cons_zero, List.set_cons_succ]
              refine tkV 5 (v := ?_) (hw := ?_) (h := ?_)
              rotate_left
              · intro W hSW
                go_simp
                try with_reducible rfl
              try simp only [Act.put, List.setIfInBounds_toArray, List.set_cons_zero, List.set_cons_succ]
              refine tkV 6 (v := ?_) (hw := ?_) (h := ?_)
              rotate_left
              · intro W hSW
                go_simp
                try with_reducible rfl
              try simp only [Act.put, List.setIfInBounds_toArray, List.set_cons_zero, List.set_cons_succ]
              refine tkV 7 (v := ?_) (hw := ?_) (h := ?_)
              rotate_left
              · intro W hSW
                go_simp
                try with_reducible rfl
              try simp only [Act.put, List.setIfInBounds_toArray, List.set_cons_zero, List.set_cons_succ]
              refine tkV 8 (v := ?_) (hw := ?_) (h := ?_)
              rotate_left
              · intro W hSW
                go_simp
                try with_reducible rfl
              try simp only [Act.put, List.setIfInBounds_toArray, List.set_cons_zero, List.set_cons_succ]
              refine tkY 9 (hy := (yieldsIf_load_sl (by rfl) 37 _ rfl w.heap.size 23 rfl (.slice (some ⟨b, off, none⟩) n xc) (fun W hSW => (HCW.out W (HBW3.out.trans (hSW.mono HBW3.out.size))).exts) Tryz.underlying37)) (h := ?_)
              try simp only [Act.put, List.setIfInBounds_toArray, List.set_cons_zero, List.set_cons_succ]
              refine tkV 10 (v := ?_) (hw := ?_) (h := ?_)
              rotate_left
              · intro W hSW
                go_simp
                try with_reducible rfl
              try simp only [Act.put, List.setIfInBounds_toArray, List.set_cons_zero, List.set_cons_succ]
              refine tkV 11 (v := ?_) (hw := ?_) (h := ?_)
              rotate_left
              · intro W hSW
                go_simp
                try with_reducible rfl
              try simp only [Act.put, List.setIfInBounds_toArray, List.set_cons_zero, List.set_cons_succ]
              refine tkV 12 (v := ?_) (hw := ?_) (h := ?_)
              rotate_left
              · intro W hSW
                go_simp
                try with_reducible rfl
              try simp only [Act.put, List.setIfInBounds_toArray, List.set_cons_zero, List.set_cons_succ]
              refine tkV 13 (v := ?_) (hw := ?_) (h := ?_)
              rotate_left
              · intro W hSW
                go_simp
                try with_reducible rfl
              try simp only [Act.put, List.setIfInBounds_toArray, List.set_cons_zero, List.set_cons_succ]
              refine tkY 14 (hy := (yieldsIf_load_str (by rfl) 9 _ rfl b (off + j * 2) rfl y.1 (fun W hSW => range_key (HROW.out j y HY.out W (HBW3.out.trans (hSW.mono HBW3.out.size)))) Tryz.underlying9)) (h := ?_)
              try simp only [Act.put, List.setIfInBounds_toArray, List.set_cons_zero, List.set_cons_succ]
              refine tkV 15 (v := ?_) (hw := ?_) (h := ?_)
              rotate_left
              · intro W hSW
                go_simp
                try with_reducible rfl
              try simp only [Act.put, List.setIfInBounds_toArray, List.set_cons_zero, List.set_cons_succ]
              refine tkY 16 (hy := (yieldsIf_load_str (by rfl) 9 _ rfl bx 0 rfl x.1 (fun W hSW => (hSW.cell (p := ⟨bx, 0, none⟩) HLX.out).trans HX0.out) Tryz.underlying9)) (h := ?_)
              try simp only [Act.put, List.setIfInBounds_toArray, List.set_cons_zero, List.set_cons_succ]
              refine tkY 17 (hy := (yieldsIf_eql (by rfl) .geq 9 _ _ _ rfl (.string y.1) (.string x.1) rfl rfl (.bool (!bl)) (guard_geq2 _ _ _ _) (fun W => HGE.out W))) (h := ?_)
              try simp only [Act.put, List.setIfInBounds_toArray, List.set_cons_zero, List.set_cons_succ]
              refine tkV 18 (v := ?_) (hw := ?_) (h := ?_)
              rotate_left
              · intro W hSW
                go_simp
                try with_reducible rfl
              try simp only [Act.put, List.setIfInBounds_toArray, List.set_cons_zero, List.set_cons_succ]
              refine tkV 19 (v := ?_) (hw := ?_) (h := ?_)
              rotate_left
              · intro W hSW
                go_simp
                try with_reducible rfl
              try simp only [Act.put, List.setIfInBounds_toArray, List.set_cons_zero, List.set_cons_succ]
              refine wpAnyH_done (by kernel_rfl) ?_ _
              refine NoPanic.normal ?_
              clear hgt hgt2 hgt3 hsub hsub2 hjn
              cases bl
              · have HBAD := Lib.hid HENT.out
                clear hHeld
                have HF : Hid (rightC c = false) := by show _ = _; unfold rightC; rw [allG_bad HP.out HBAD.out]; simp
                go_wp2_with fail
                (try simp only [Exit.inBlock, Exit.then])
                go_ret
                exact ⟨by rw [HF.out]; rfl, HB0.out.trans ((HBW3.out.trans (HB1.out.mono HBW3.out.size)).mono HB0.out.size)⟩
              · have HGOOD := Lib.hid HENT.out
                clear hHeld
                have HOK2 : Hid (∀ i x', i < k + 1 → c.xs[i]? = some x' → atG extOk (·.1) c.xs i x' = true) := fun i x' hi hx' => by
                  by_cases hik : i = k
                  · subst hik
                    rw [HP.out] at hx'
                    injection hx' with hx'
                    subst hx'
                    exact HGOOD.out
                  · exact HOK.out i x' (by omega) hx'
                go_wp2_with fail
                exact ⟨⟨k + 1, HKN.out, by first | rw [WK.out _ rfl] | rfl, HOK2.out, HBW3.out.trans (HB1.out.mono HBW3.out.size)⟩, by have := HKN.out; (first | rw [WK.out _ rfl] | skip); simp [intOf]; omega⟩
        · have hki : ¬ (k : Int) < (n : Int) := by omega
          have HXOK : Hid (allG extOk (·.1) c.xs = true) := allG_all fun i x hi hx => HOK.out i x (by rw [HN.out] at hi; omega) hx
          clear hkn hk
          have hcf := (HCW.out wr HBW.out).files
          go_wp2_with fail
          clear hcf hki
          have HBX := HBW
          clear HBW WK HOK
          go_loopw [67] (fun i wr => ∃ k : Nat, k ≤ fn ∧ i = .int .i64 (k : Int) ∧ (∀ i x', i < k → c.fs[i]? = some x' → atG pathOk (fun p => p) c.fs i x' = true) ∧ Below w0.heap.size w0 wr) (fun i _ => fn - (intOf i).toNat)
          case atStart => exact ⟨0, Nat.zero_le _, rfl, fun i x' hi => by omega, HBX.out⟩
          case round =>
            rename World => wf
            obtain ⟨k, hk, rfl, hok, hb⟩ := hrel
            have HOK := Lib.hid hok
            have HBW3 := Lib.hid hb
            have WK := Lib.hid (next_int k (by have := HFB.out; omega))
            clear hok hb
            by_cases hkn : k < fn
            · have hki : (k : Int) < (fn : Int) := by omega
              have HKN := Lib.hid hkn
              rcases HAF.out with h0 | ⟨b, off, rfl, hbl, hc⟩
              · rw [HFN.out] at h0; omega
              have HROW : Hid (∀ (j : Nat) y, c.fs[j]? = some y → ∀ W, Below w0.heap.size w0 W → W.cell? ⟨b, off + j, none⟩ = some (.string y)) := fun j y hj W hW => by
                have := range_str (range_below (hc j y hj) (HB0.out.trans (hW.mono HB0.out.size)) hbl)
                rwa [Nat.mul_one] at this
              obtain ⟨x, hp⟩ : ∃ x, c.fs[k]? = some x := ⟨_, List.getElem?_eq_getElem (by rw [HFN.out]; exact hkn)⟩
              have HP := Lib.hid hp
              have hcx := HROW.out k x hp wf HBW3.out
              obtain ⟨rb, hrb⟩ : ∃ r, rightL x.data.toList = r := ⟨_, rfl⟩
              have HRB := Lib.hid hrb
              clear hp hbl hc hkn hk hrb
              go_wp2_with fail
              clear hcx
              refine (right_any x wf (HE.out.below (HB0.out.trans (HBW3.out.mono HB0.out.size))).env).mono ?_
              rintro e w4 ⟨rfl, hb⟩
              rw [HRB.out]
              have HB4 := Lib.hid (HBW3.out.trans (hb.mono HBW3.out.size))
              clear hb
              cases rb
              · have HF : Hid (rightC c = false) := by show _ = _; unfold rightC; rw [allG_bad HP.out (atG_no (show pathOk x = false from HRB.out))]; simp
                go_wp2_with fail
                (try simp only [Exit.inBlock, Exit.then])
                go_ret
                exact ⟨by rw [HF.out]; rfl, HB0.out.trans (HB4.out.mono HB0.out.size)⟩
              · have hxo : pathOk x = true := HRB.out
                by_cases hk0 : k = 0
                · have HGOOD : Hid (atG pathOk (fun p => p) c.fs k x = true) := by show _ = _; rw [hk0]; exact atG_zero hxo
                  have hgt : ¬ (0 : Int) < (k : Int) := by omega
                  have hgt2 : ¬ 0 < k := by omega
                  have hgt3 : decide ((0 : Int) < (k : Int)) = false := decide_eq_false hgt
                  clear hk0 hxo
                  have HOK2 : Hid (∀ i x', i < k + 1 → c.fs[i]? = some x' → atG pathOk (fun p => p) c.fs i x' = true) := fun i x' hi hx' => by
                    by_cases hik : i = k
                    · subst hik
                      rw [HP.out] at hx'
                      injection hx' with hx'
                      subst hx'
                      exact HGOOD.out
                    · exact HOK.out i x' (by omega) hx'
                  go_wp2_with fail
                  exact ⟨⟨k + 1, HKN.out, by first | rw [WK.out _ rfl] | rfl, HOK2.out, HB4.out⟩, by have := HKN.out; (first | rw [WK.out _ rfl] | skip); simp [intOf]; omega⟩
                · obtain ⟨j, hj⟩ : ∃ j, k = j + 1 := ⟨k - 1, by omega⟩
                  obtain ⟨y, hy⟩ : ∃ y, c.fs[j]? = some y := ⟨_, List.getElem?_eq_getElem (by have := HKN.out; rw [HFN.out]; omega)⟩
                  obtain ⟨bl, hbl⟩ : ∃ r, Op.bytesLess y.toList x.toList = r := ⟨_, rfl⟩
                  have HGE := Lib.hid (geq_str y x bl hbl)
                  have HENT : Hid (atG pathOk (fun p => p) c.fs k x = bl) := by show _ = _; rw [hj, atG_succ hxo hy]; exact hbl
                  have hcy := HROW.out j y hy w4 HB4.out
                  have hcf := (HCW.out w4 HB4.out).files
                  have hsub : wrap64 ((k : Int) - 1) = (j : Int) := by
                    rw [show ((k : Int) - 1) = (j : Int) by omega]
                    exact IntWalk.wrap64_in _ (by have := HFB.out; have := HKN.out; omega)
                  have hjn : (j : Int) < (fn : Int) := by have := HKN.out; omega
                  have hgt : (0 : Int) < (k : Int) := by omega
                  have hgt2 : 0 < k := by omega
                  have hgt3 : decide ((0 : Int) < (k : Int)) = true := decide_eq_true hgt
                  clear hk0 hj hy hbl hxo
                  cases bl
                  · have HF : Hid (rightC c = false) := by show _ = _; unfold rightC; rw [allG_bad HP.out HENT.out]; simp
                    go_wp2_with (first
                      | refine wpList_eql (by rfl) .geq 9 _ _ _ rfl (.string y) (.string x) rfl rfl (.bool true) (guard_geq2 _ _ _ _) (fun W => HGE.out W) ?_)
                    (try simp only [Exit.inBlock, Exit.then])
                    go_ret
                    exact ⟨by rw [HF.out]; rfl, HB0.out.trans (HB4.out.mono HB0.out.size)⟩
                  · have HGOOD := Lib.hid HENT.out
                    have HOK2 : Hid (∀ i x', i < k + 1 → c.fs[i]? = some x' → atG pathOk (fun p => p) c.fs i x' = true) := fun i x' hi hx' => by
                      by_cases hik : i = k
                      · subst hik
                        rw [HP.out] at hx'
                        injection hx' with hx'
                        subst hx'
                        exact HGOOD.out
                      · exact HOK.out i x' (by omega) hx'
                    go_wp2_with (first
                      | refine wpList_eql (by rfl) .geq 9 _ _ _ rfl (.string y) (.string x) rfl rfl (.bool false) (guard_geq2 _ _ _ _) (fun W => HGE.out W) ?_)
                    exact ⟨⟨k + 1, HKN.out, by first | rw [WK.out _ rfl] | rfl, HOK2.out, HB4.out⟩, by have := HKN.out; (first | rw [WK.out _ rfl] | skip); simp [intOf]; omega⟩
            · have hki : ¬ (k : Int) < (fn : Int) := by omega
              have HT : Hid (rightC c = true) := by
                show _ = _
                unfold rightC
                rw [HHD.out, HXOK.out, allG_all fun i x hi hx => HOK.out i x (by rw [HFN.out] at hi; omega) hx]; rfl
              clear hkn hk
              go_wp2_with fail
              go_ret
              exact ⟨by rw [HT.out]; rfl, HB0.out.trans (HBW3.out.mono HB0.out.size)⟩
    · have HF : Hid (rightC c = false) := by show _ = _; unfold rightC; rw [HH.out]; simp
      go_wp2_with fail
      go_ret
      exact ⟨by rw [HF.out]; rfl, HB0.out⟩
  · have HF : Hid (rightC c = false) := by show _ = _; unfold rightC; rw [HH.out]; simp
    have H1 := HE1
    go_enter Tryz.func59, Tryz.ntmps59
    go_wp2_with (first
      | refine wpList_eql (by rfl) .eql 9 _ _ _ rfl (.string c.u) (.string ⟨#[]⟩) rfl rfl (.bool true) (guard_eq _ _ _ _) H1.out ?_)
    go_ret
    exact ⟨by rw [HF.out]; rfl, HB0.out⟩
end Go.Proofs.YtkpiinjhcckhfaaGreatDoor
