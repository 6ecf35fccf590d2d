/- Persons, plainly; strings put together. -/
import Derived.Test.YtkpiinjhcckhfaaGreatDoorChExts
import Derived.Test.YtkpiinjhcckhfaaGreatDoorChRight
import Derived.Test.YtkpiinjhcckhfaaGreatDoorChPrint
/-! Persons, plainly; strings put together. -/
namespace Go.Proofs.YtkpiinjhcckhfaaGreatDoor
open Go.RowKit Plain
set_option linter.unusedVariables false
set_option linter.unusedSimpArgs false
structure WX where
  n : ByteArray
  m : ByteArray
  t : Int
  z : ByteArray
def whoL (x : WX) : List Value := [.string x.n, .string x.m, .int .i64 x.t, .string x.z]
def whoA (x : WX) : Array Value := #[.string x.n, .string x.m, .int .i64 x.t, .string x.z]
def wzero : WX := ⟨⟨#[]⟩, ⟨#[]⟩, 0, ⟨#[]⟩⟩
def noAny (cs l : List UInt8) : Bool := !l.any fun b => cs.contains b
theorem containsAny_has (cs l : List UInt8) : Lib.containsAny l cs = l.any fun b => cs.contains b := by
  unfold Lib.containsAny
  induction l with
  | nil => rfl
  | cons b l ih =>
    have hge := Lib.indexAny_ge cs l
    unfold Lib.indexAny
    rw [List.any_cons, ← ih]
    cases h : cs.contains b
    · simp only [Bool.false_eq_true, if_false, Bool.false_or]
      split
      · rename_i e
        rw [beq_iff_eq.1 e]
      · rename_i e
        have : Lib.indexAny l cs ≠ -1 := fun e2 => e (beq_iff_eq.2 e2)
        rw [decide_eq_decide]
        omega
    · simp
def digB (b : UInt8) : Bool := decide (48 ≤ b.toNat) && decide (b.toNat ≤ 57)
def zoneB (l : List UInt8) : Bool := decide (l.length = 5) && (l[0]?.getD 0 == 43 || l[0]?.getD 0 == 45) && (l.drop 1).all digB
def badW : List UInt8 := [60, 62, 10]
def whoB (x : WX) : Bool := noAny badW (x.n.data.toList ++ x.m.data.toList) && decide (0 ≤ x.t) && decide (x.t ≤ 4611686018427387903) && zoneB x.z.data.toList
def whoT (x : WX) : List UInt8 := x.n.data.toList ++ [32, 60] ++ x.m.data.toList ++ [62, 32] ++ Lib.itoa x.t ++ [32] ++ x.z.data.toList
/-- What a text tells, part by part. -/
def personR (l : List UInt8) : Option WX :=
  if (Lib.cut l [32, 60]).2.2 = true then
    (if (Lib.cut (Lib.cut l [32, 60]).2.1 [62, 32]).2.2 = true then
      (if (Lib.cut (Lib.cut (Lib.cut l [32, 60]).2.1 [62, 32]).2.1 [32]).2.2 = true ∧ (decF (Lib.cut (Lib.cut (Lib.cut l [32, 60]).2.1 [62, 32]).2.1 [32]).1).2 = 0 then
        some ⟨txt (Lib.cut l [32, 60]).1, txt (Lib.cut (Lib.cut l [32, 60]).2.1 [62, 32]).1, ((decF (Lib.cut (Lib.cut (Lib.cut l [32, 60]).2.1 [62, 32]).2.1 [32]).1).1 : Nat), txt (Lib.cut (Lib.cut (Lib.cut l [32, 60]).2.1 [62, 32]).2.1 [32]).2.1⟩
      else none) else none) else none
def personE (l : List UInt8) : WX × Nat := match personR l with
  | some x => if whoB x = true then (x, 0) else (wzero, 4)
  | none => (wzero, 4)
theorem guard_addn (x y : Operand) (s t : ByteArray) (W : World) : (eqGuard .add 9 x y (.string s) (.string t)).run Tryz.prog W = .ok () W := by simp [eqGuard]
theorem add_txt (a b : ByteArray) (l : List UInt8) (h : a.data.toList ++ b.data.toList = l) (hs : a.size + b.size ≤ 1000000000) (W : World) : (binOp .add 9 (.string a) (.string b)).run Tryz.prog W = .ok (.string (txt l)) W := by
  have h1 := add_str a b hs W
  have h2 : (binOp .add 9 (.string a) (.string b)).run Tryz.prog W = .ok (.string (a ++ b)) W := by simpa [binOp, run_underlying Tryz.underlying9] using h1
  have e : a ++ b = txt l := bytes_ext (by rw [txt_list, ← h, ByteArray.data_append, Array.toList_append])
  rw [h2, e]
theorem slice_tail (s : ByteArray) (lo : Nat) (h : lo ≤ s.size) (x : Int) (hx : x = (lo : Int)) (W : World) : (Instr.slice 9 (.string s) (some (.int .i64 x)) none none).run Tryz.prog W = .ok (.string (s.extract lo s.size)) W := by
  subst hx
  have ht := Tryz.underlying9
  simp [Instr.slice, run_underlying ht, Instr.sliceBounds, run_sliceBound, h]
theorem tail_of (s : ByteArray) (k : Nat) : (s.extract k s.size).data.toList = s.data.toList.drop k := by
  rw [ByteArray.data_extract, Array.toList_extract, List.extract_eq_take_drop, List.take_of_length_le (by rw [List.length_drop, Lib.size_eq]; exact Nat.le_refl _)]
theorem cutS_any (l sep : List UInt8) (w : World) (hE : Env w) (hs : l.length ≤ 1000000000) :
    Calls Tryz.prog 78 #[.string (txt l), .string (txt sep)] w fun e w' => e = .returned (.tuple #[.string (txt (Lib.cut l sep).1), .string (txt (Lib.cut l sep).2.1), .bool (Lib.cut l sep).2.2]) ∧ Below w.heap.size w w' := by
  obtain ⟨m, hm⟩ := hE.most
  refine (Tryz.strings_Cut (txt l) (txt sep) m w (by rw [txt_size]; omega) hm).mono ?_
  rintro e w' ⟨rfl, q, rfl⟩
  refine ⟨?_, below_drewN' (Below.refl _ _) q⟩
  rw [txt_list, txt_list]
  rfl
theorem cutS_len (l sep : List UInt8) : (Lib.cut l sep).1.length ≤ l.length ∧ (Lib.cut l sep).2.1.length ≤ l.length := by
  unfold Lib.cut
  split
  · refine ⟨?_, ?_⟩
    · show (l.take _).length ≤ _
      rw [List.length_take]; omega
    · show (l.drop _).length ≤ _
      rw [List.length_drop]; omega
  · exact ⟨Nat.le_refl _, Nat.zero_le _⟩
theorem yieldsIf_build {P : Program} {ops : Array Oper} {S : World → Prop} {op : Oper} {a : Act} (hw : Region.wanted op (yielded ops a.tmps) = true) (ty : TypeId) (ps : Array (Nat × Operand)) (ho : op.op = .build ty ps)
    (qs : Array (Nat × Value)) (hq : (ps.map fun (i, x) => (i, a.eval x)) = qs) (v : Value) (hr : ∀ W, (Instr.build ty qs).run P W = .ok v W) : YieldsIf P ops S op v a :=
  .inl ⟨hw, fun W _ => by
    unfold execOp
    simp only [ho, Sem.run_bind, hq, hr, Result.andThen_ok]
    rfl⟩
theorem wpList_buildQ {P : Program} {w : World} {ops : Array Oper} {rest : List Oper} {o : Oper} {a : Act} {Q : Exit → Act → World → Prop} (hw : Region.wanted o (yielded ops a.tmps) = true) (ty : TypeId) (ps : Array (Nat × Operand)) (ho : o.op = .build ty ps)
    (qs : Array (Nat × Value)) (hq : (ps.map fun (i, x) => (i, a.eval x)) = qs) (v : Value) (hr : ∀ W, (Instr.build ty qs).run P W = .ok v W) (h : wpList P ops Q rest (a.put o.dst v) w) : wpList P ops Q (o :: rest) a w := by
  refine wpList_step ?_
  intro K hK
  rw [if_pos hw]
  unfold Oper.wp execOp
  simp only [ho, Sem.run_bind, hq, hr, Result.andThen_ok]
  exact hK _ _ h
theorem neq_self (s : ByteArray) (W : World) : (binOp .neq 9 (.string s) (.string s)).run Tryz.prog W = .ok (.bool false) W := by
  rw [binOp_string_neq]
  simp
end Go.Proofs.YtkpiinjhcckhfaaGreatDoor
/-! A person: Who.right, rightZone, text, Text: the walks. -/
namespace Go.Proofs.YtkpiinjhcckhfaaGreatDoor
open Go.RowKit Plain
set_option linter.unusedVariables false
set_option linter.unusedSimpArgs false
def WhoSmall (x : WX) : Prop := x.n.size ≤ 40000 ∧ x.m.size ≤ 40000 ∧ x.z.size ≤ 40000 ∧ -9223372036854775808 ≤ x.t ∧ x.t ≤ 9223372036854775807
theorem who_cell {w : World} {b : Nat} {x : WX} {t : TypeId} {fr : Nat × Nat} (h : w.heap[b]? = some (.cells (whoA x) t fr)) : w.cell? ⟨b, 0, none⟩ = some (.string x.n) ∧ w.cell? ⟨b, 1, none⟩ = some (.string x.m) ∧ w.cell? ⟨b, 2, none⟩ = some (.int .i64 x.t) ∧ w.cell? ⟨b, 3, none⟩ = some (.string x.z) := by
  refine ⟨?_, ?_, ?_, ?_⟩ <;> (rw [cell_of_row _ _ _ _ _ _ h]; rfl)
set_option maxRecDepth 100000 in
set_option maxHeartbeats 8000000 in
theorem zone_any (s : ByteArray) (w : World) (hs : s.size ≤ 40000) : Calls Tryz.prog 96 #[.string s] w fun e w' => e = .returned (.bool (zoneB s.data.toList)) ∧ Below w.heap.size w w' := by
  have HSZ := Lib.hid (Lib.size_eq s)
  by_cases h5 : s.size = 5
  rotate_left
  · have hn : ((s.size : Int) != 5) = true := bne_iff_ne.2 (by omega)
    have hn2 : ¬ (s.size : Int) = 5 := by omega
    have HF : Hid (zoneB s.data.toList = false) := by show _ = _; unfold zoneB; rw [decide_eq_false (by rw [← HSZ.out]; exact h5)]; rfl
    clear h5
    go_enter Tryz.func96, Tryz.ntmps96
    go_wp2_with fail
    go_ret
    exact ⟨by rw [HF.out]; rfl, Below.refl _ _⟩
  have hi5 : (s.size : Int) = 5 := by omega
  have hix := fun W => index_text s 0 (by omega) 0 rfl W
  obtain ⟨q, hq⟩ : ∃ q, s.data.toList[0]?.getD 0 = q := ⟨_, rfl⟩
  have h8 : at8 s 0 = q.toNat := by unfold at8; rw [hq]
  rw [h8] at hix
  have HZ : Hid (zoneB s.data.toList = ((q == 43 || q == 45) && (s.data.toList.drop 1).all digB)) := by show _ = _; unfold zoneB; rw [hq, decide_eq_true (by rw [← HSZ.out]; exact h5)]; rfl
  clear h8 hq
  by_cases hz : q = 43 ∨ q = 45
  rotate_left
  · have n43 : ¬ q = 43 := fun e => hz (.inl e)
    have n45 : ¬ q = 45 := fun e => hz (.inr e)
    have i43 : ¬ (q.toNat : Int) = 43 := fun e => n43 (UInt8.toNat_inj.1 (by show q.toNat = 43; omega))
    have i45 : ¬ (q.toNat : Int) = 45 := fun e => n45 (UInt8.toNat_inj.1 (by show q.toNat = 45; omega))
    have b43 : ((q.toNat : Int) != 43) = true := bne_iff_ne.2 i43
    have b45 : ((q.toNat : Int) != 45) = true := bne_iff_ne.2 i45
    have HF : Hid (zoneB s.data.toList = false) := by show _ = _; rw [HZ.out, beq_eq_false_iff_ne.2 n43, beq_eq_false_iff_ne.2 n45]; rfl
    clear hz n43 n45
    generalize (q.toNat : Int) = qi at *
    go_enter Tryz.func96, Tryz.ntmps96
    go_wp2_with fail
    go_ret
    exact ⟨by rw [HF.out]; rfl, Below.refl _ _⟩
  have HQ : Hid ((q == 43 || q == 45) = true) := by show _ = _; rcases hz with rfl | rfl <;> rfl
  have hqi : (q.toNat : Int) = 43 ∨ (¬ (q.toNat : Int) = 43 ∧ (q.toNat : Int) = 45) := by
    rcases hz with rfl | rfl
    · exact .inl rfl
    · exact .inr ⟨by decide, rfl⟩
  have hsl := fun W => slice_tail s 1 (by omega) 1 rfl W
  have hts : (s.extract 1 s.size).size = 4 := by rw [ByteArray.size_extract]; omega
  have htl : (s.extract 1 s.size).data.toList = s.data.toList.drop 1 := tail_of s 1
  obtain ⟨r, hr⟩ : ∃ r, s.extract 1 s.size = r := ⟨_, rfl⟩
  rw [hr] at hsl hts htl
  have HTL := Lib.hid htl
  have HRS := Lib.hid hts
  have HB := Lib.hid (bytes_new w r (by omega))
  obtain ⟨cp, hcp, hcv⟩ := conv_bytes w r
  have HBW : Hid (Below w.heap.size w (Lib.bytesWorld w 5 r)) := Lib.bytesWorld_below _ _ _
  rw [hts] at hcv
  clear hz hr htl hts hcp h5 hs
  generalize (q.toNat : Int) = qi at *
  rcases hqi with rfl | ⟨g43, rfl⟩
  all_goals
    go_enter Tryz.func96, Tryz.ntmps96
    go_wp2_with fail
    clear hcv hix hsl
    generalize Lib.bytesWorld w 5 r = w1 at *
    go_loop [22] (fun i => ∃ m : Nat, m ≤ 4 ∧ i = .int .i64 (m : Int) ∧ ∀ j, j < m → digB (r.data.toList[j]?.getD 0) = true) (fun i => 4 - (intOf i).toNat)
    case atStart => exact ⟨0, Nat.zero_le _, rfl, fun j h => by omega⟩
    case round =>
      obtain ⟨m, hm, rfl, hno⟩ := hrel
      have HNO := Lib.hid hno
      have WM := Lib.hid (next_int m (by omega))
      clear hno
      by_cases hms : m < 4
      · have hmi : (m : Int) < 4 := by omega
        have HMS := Lib.hid hms
        have hcell : w1.cell? ⟨w.heap.size, m, none⟩ = some (.int .u8 ((r.data.toList[m]?.getD 0).toNat : Int)) := by
          rcases HB.out.2.2.2 with h0 | ⟨b, off, hb, hc⟩
          · have := HRS.out; omega
          · simp only [Option.some.injEq, Addr.mk.injEq] at hb
            obtain ⟨rfl, rfl, -⟩ := hb
            have := hc m (by rw [HRS.out]; exact hms)
            rw [Nat.zero_add] at this
            rw [this]
            unfold numsOf
            rw [List.getElem?_map, List.getElem?_eq_getElem (by rw [← Lib.size_eq, HRS.out]; exact hms)]
            rfl
        obtain ⟨c, hc⟩ : ∃ q, r.data.toList[m]?.getD 0 = q := ⟨_, rfl⟩
        rw [hc] at hcell
        have HGO : Hid (digB c = true → ∀ j, j < m + 1 → digB (r.data.toList[j]?.getD 0) = true) := fun h j hj => by
          by_cases hjm : j = m
          · rw [hjm, hc]; exact h
          · exact HNO.out j (by omega)
        have HBAD : Hid (digB c = false → zoneB s.data.toList = false) := fun h => by
          have hl : m < r.data.toList.length := by rw [← Lib.size_eq, HRS.out]; exact HMS.out
          have h1 : r.data.toList.all digB = false := by
            rw [List.all_eq_false]
            refine ⟨_, List.getElem_mem hl, ?_⟩
            rw [List.getElem?_eq_getElem hl] at hc
            rw [show r.data.toList[m] = c from hc, h]; decide
          rw [HZ.out, ← HTL.out, h1, Bool.and_false]
        have hcs : c.toNat < 48 ∨ (48 ≤ c.toNat ∧ c.toNat ≤ 57) ∨ 57 < c.toNat := by omega
        have HD : Hid (digB c = (decide (48 ≤ c.toNat) && decide (c.toNat ≤ 57))) := rfl
        clear hc hms hm
        rcases hcs with g | ⟨g, g'⟩ | g
        · have g1 : (c.toNat : Int) < 48 := by omega
          have HF := Lib.hid (HBAD.out (by rw [HD.out, decide_eq_false (by omega)]; rfl))
          clear g
          generalize (c.toNat : Int) = ci at *
          go_wp2_with fail
          (try simp only [Exit.inBlock, Exit.then])
          go_ret
          exact ⟨by rw [HF.out]; rfl, HBW.out⟩
        · have g1 : ¬ (c.toNat : Int) < 48 := by omega
          have g2 : ¬ (57 : Int) < (c.toNat : Int) := by omega
          have HG := Lib.hid (HGO.out (by rw [HD.out, decide_eq_true g, decide_eq_true g']; rfl))
          clear g g'
          generalize (c.toNat : Int) = ci at *
          go_wp2_with fail
          exact ⟨⟨m + 1, HMS.out, by first | rw [WM.out _ rfl] | rfl, HG.out⟩, by have := HMS.out; (first | rw [WM.out _ rfl] | skip); simp [intOf]; omega⟩
        · have g1 : ¬ (c.toNat : Int) < 48 := by omega
          have g2 : (57 : Int) < (c.toNat : Int) := by omega
          have HF := Lib.hid (HBAD.out (by rw [HD.out, decide_eq_false (by omega : ¬ c.toNat ≤ 57), Bool.and_false]))
          clear g
          generalize (c.toNat : Int) = ci at *
          go_wp2_with fail
          (try simp only [Exit.inBlock, Exit.then])
          go_ret
          exact ⟨by rw [HF.out]; rfl, HBW.out⟩
      · have hmi : ¬ (m : Int) < 4 := by omega
        have HF : Hid (zoneB s.data.toList = true) := by
          have h1 : r.data.toList.all digB = true := by
            rw [List.all_eq_true]
            intro c hc
            obtain ⟨j, hj⟩ := List.mem_iff_getElem?.1 hc
            have hjl := (List.getElem?_eq_some_iff.1 hj).1
            have := HNO.out j (by rw [← Lib.size_eq, HRS.out] at hjl; omega)
            rw [hj] at this
            exact this
          show _ = _
          rw [HZ.out, ← HTL.out, h1, HQ.out]; rfl
        clear hms hm
        go_wp2_with fail
        go_ret
        exact ⟨by rw [HF.out]; rfl, HBW.out⟩
set_option maxRecDepth 100000 in
set_option maxHeartbeats 8000000 in
theorem who_any (x : WX) (w : World) (hs : WhoSmall x) : Calls Tryz.prog 74 #[.agg (whoA x)] w fun e w' => e = .returned (.bool (whoB x)) ∧ Below w.heap.size w w' := by
  have HS := Lib.hid hs
  have HB0 : Hid (Below w.heap.size w (w.alloc (.cells (whoA x) 31))) := (Below.refl _ _).alloc (Nat.le_refl _) _
  have HR0 : Hid ((w.alloc (.cells (whoA x) 31)).heap[w.heap.size]? = some (.cells (whoA x) 31 (0, 0))) := heap_alloc_new _ _
  obtain ⟨hc0, hc1, hc2, hc3⟩ := who_cell HR0.out
  obtain ⟨NM, hNM⟩ : ∃ l, x.n.data.toList ++ x.m.data.toList = l := ⟨_, rfl⟩
  have HA : Hid (∀ W, (binOp .add 9 (.string x.n) (.string x.m)).run Tryz.prog W = .ok (.string (txt NM)) W) := fun W => add_txt _ _ _ hNM (by have := HS.out; unfold WhoSmall at this; omega) W
  have HNL : Hid ((txt NM).size ≤ 80000) := by show _ ≤ _; rw [txt_size, ← hNM, List.length_append, ← Lib.size_eq, ← Lib.size_eq]; have := HS.out; unfold WhoSmall at this; omega
  obtain ⟨b, hb⟩ : ∃ b, (NM.any fun c => badW.contains c) = b := ⟨_, rfl⟩
  have HCA : Hid (∀ W, Calls Tryz.prog 95 #[.string (txt NM), .string ⟨#[60, 62, 10]⟩] W fun e w' => e = .returned (.bool b) ∧ Below W.heap.size W w') := fun W => by
    have h := containsAny_any (txt NM) ⟨#[60, 62, 10]⟩ W (by have := HNL.out; omega) (by decide) (by decide) (by unfold Ascii; decide)
    rw [containsAny_has, txt_list, show (⟨#[60, 62, 10]⟩ : ByteArray).data.toList = badW from rfl, hb] at h
    exact h
  have HWB : Hid (whoB x = (!b && decide (0 ≤ x.t) && decide (x.t ≤ 4611686018427387903) && zoneB x.z.data.toList)) := by show _ = _; unfold whoB noAny; rw [hNM, hb]
  clear hs hb hNM
  go_enter Tryz.func74, Tryz.ntmps74
  go_wp2_with (first
    | refine wpList_eql (by rfl) .add 9 _ _ _ rfl (.string x.n) (.string x.m) rfl rfl (.string (txt NM)) (guard_addn _ _ _ _) HA.out ?_)
  clear hc0 hc1 hc2 hc3
  refine (HCA.out _).mono ?_
  rintro e w2 ⟨rfl, hb⟩
  have hlt : w.heap.size < (w.alloc (.cells (whoA x) 31)).heap.size := by simp
  have hc2 := (hb.cell (p := ⟨w.heap.size, 2, none⟩) hlt).trans (who_cell HR0.out).2.2.1
  have hc3 := (hb.cell (p := ⟨w.heap.size, 3, none⟩) hlt).trans (who_cell HR0.out).2.2.2
  have HB2 := Lib.hid (HB0.out.trans (hb.mono HB0.out.size))
  clear hb hlt
  cases b
  rotate_left
  · have HF : Hid (whoB x = false) := by show _ = _; rw [HWB.out]; rfl
    go_wp2_with fail
    go_ret
    exact ⟨by rw [HF.out]; rfl, HB2.out⟩
  by_cases h0 : 0 ≤ x.t
  rotate_left
  · have HF : Hid (whoB x = false) := by show _ = _; rw [HWB.out, decide_eq_false h0]; rfl
    go_wp2_with fail
    go_ret
    exact ⟨by rw [HF.out]; rfl, HB2.out⟩
  by_cases h1 : x.t ≤ 4611686018427387903
  rotate_left
  · have HF : Hid (whoB x = false) := by show _ = _; rw [HWB.out, decide_eq_true h0, decide_eq_false h1]; rfl
    go_wp2_with fail
    go_ret
    exact ⟨by rw [HF.out]; rfl, HB2.out⟩
  have HF : Hid (whoB x = zoneB x.z.data.toList) := by show _ = _; rw [HWB.out, decide_eq_true h0, decide_eq_true h1]; rfl
  go_wp2_with fail
  refine (zone_any x.z w2 HS.out.2.2.1).mono ?_
  rintro e w3 ⟨rfl, hb⟩
  have HB3 := Lib.hid (HB2.out.trans (hb.mono HB2.out.size))
  clear hb
  go_wp2_with fail
  go_ret
  rw [HF.out]
  exact ⟨rfl, HB3.out⟩
set_option maxRecDepth 100000 in
set_option maxHeartbeats 8000000 in
theorem whotext_any (x : WX) (w : World) (hE : EnvC w) (hs : WhoSmall x) : Calls Tryz.prog 49 #[.agg (whoA x)] w fun e w' => e = .returned (.string (txt (whoT x))) ∧ Below w.heap.size w w' := by
  have HE := Lib.hid hE
  have HS := Lib.hid hs
  have HTB : Hid (-9223372036854775808 ≤ x.t ∧ x.t ≤ 9223372036854775807) := hs.2.2.2
  have HB0 : Hid (Below w.heap.size w (w.alloc (.cells (whoA x) 31))) := (Below.refl _ _).alloc (Nat.le_refl _) _
  have HR0 : Hid ((w.alloc (.cells (whoA x) 31)).heap[w.heap.size]? = some (.cells (whoA x) 31 (0, 0))) := heap_alloc_new _ _
  have hla := itoa_len x.t HTB.out
  have hn := hs.1
  have hm := hs.2.1
  have hz := hs.2.2.1
  obtain ⟨T1, h1⟩ : ∃ l, x.n.data.toList ++ [32, 60] = l := ⟨_, rfl⟩
  obtain ⟨T2, h2⟩ : ∃ l, T1 ++ x.m.data.toList = l := ⟨_, rfl⟩
  obtain ⟨T3, h3⟩ : ∃ l, T2 ++ [62, 32] = l := ⟨_, rfl⟩
  obtain ⟨T4, h4⟩ : ∃ l, T3 ++ Lib.itoa x.t = l := ⟨_, rfl⟩
  obtain ⟨T5, h5⟩ : ∃ l, T4 ++ [32] = l := ⟨_, rfl⟩
  obtain ⟨T6, h6⟩ : ∃ l, T5 ++ x.z.data.toList = l := ⟨_, rfl⟩
  have l1 : T1.length ≤ 40002 := by rw [← h1, List.length_append, ← Lib.size_eq]; simp; omega
  have l2 : T2.length ≤ 80002 := by rw [← h2, List.length_append, ← Lib.size_eq]; omega
  have l3 : T3.length ≤ 80004 := by rw [← h3, List.length_append]; simp; omega
  have l4 : T4.length ≤ 80025 := by rw [← h4, List.length_append]; omega
  have l5 : T5.length ≤ 80026 := by rw [← h5, List.length_append]; simp; omega
  have HA1 : Hid (∀ W, (binOp .add 9 (.string x.n) (.string ⟨#[32, 60]⟩)).run Tryz.prog W = .ok (.string (txt T1)) W) := fun W => add_txt _ _ _ h1 (by show _ + 2 ≤ _; omega) W
  have HA2 : Hid (∀ W, (binOp .add 9 (.string (txt T1)) (.string x.m)).run Tryz.prog W = .ok (.string (txt T2)) W) := fun W => add_txt _ _ _ (by rw [txt_list]; exact h2) (by rw [txt_size]; omega) W
  have HA3 : Hid (∀ W, (binOp .add 9 (.string (txt T2)) (.string ⟨#[62, 32]⟩)).run Tryz.prog W = .ok (.string (txt T3)) W) := fun W => add_txt _ _ _ (by rw [txt_list]; exact h3) (by rw [txt_size]; show _ + 2 ≤ _; omega) W
  have HA4 : Hid (∀ W, (binOp .add 9 (.string (txt T3)) (.string (txt (Lib.itoa x.t)))).run Tryz.prog W = .ok (.string (txt T4)) W) := fun W => add_txt _ _ _ (by rw [txt_list, txt_list]; exact h4) (by rw [txt_size, txt_size]; omega) W
  have HA5 : Hid (∀ W, (binOp .add 9 (.string (txt T4)) (.string ⟨#[32]⟩)).run Tryz.prog W = .ok (.string (txt T5)) W) := fun W => add_txt _ _ _ (by rw [txt_list]; exact h5) (by rw [txt_size]; show _ + 1 ≤ _; omega) W
  have HA6 : Hid (∀ W, (binOp .add 9 (.string (txt T5)) (.string x.z)).run Tryz.prog W = .ok (.string (txt T6)) W) := fun W => add_txt _ _ _ (by rw [txt_list]; exact h6) (by rw [txt_size]; omega) W
  have HT6 : Hid (whoT x = T6) := by show _ = _; rw [← h6, ← h5, ← h4, ← h3, ← h2, ← h1]; rfl
  clear hs hE hla hn hm hz h1 h2 h3 h4 h5 h6 l1 l2 l3 l4 l5
  go_enter Tryz.func49, Tryz.ntmps49
  go_wp2_with fail
  generalize w.alloc (.cells (whoA x) 31) = w0 at *
  obtain ⟨p0, hp0⟩ : ∃ p, w.heap.size = p := ⟨_, rfl⟩
  rw [hp0] at HR0 ⊢
  have HPE := Lib.hid hp0
  clear hp0
  have HLT : Hid (p0 < w0.heap.size) := (Array.getElem?_eq_some_iff.1 HR0.out).1
  have HC0 : Hid (∀ W, Below w0.heap.size w0 W → W.cell? ⟨p0, 0, none⟩ = some (.string x.n)) := fun W hW => (hW.cell (p := ⟨p0, 0, none⟩) HLT.out).trans (who_cell HR0.out).1
  have HC1 : Hid (∀ W, Below w0.heap.size w0 W → W.cell? ⟨p0, 1, none⟩ = some (.string x.m)) := fun W hW => (hW.cell (p := ⟨p0, 1, none⟩) HLT.out).trans (who_cell HR0.out).2.1
  have HC2 : Hid (∀ W, Below w0.heap.size w0 W → W.cell? ⟨p0, 2, none⟩ = some (.int .i64 x.t)) := fun W hW => (hW.cell (p := ⟨p0, 2, none⟩) HLT.out).trans (who_cell HR0.out).2.2.1
  have HC3 : Hid (∀ W, Below w0.heap.size w0 W → W.cell? ⟨p0, 3, none⟩ = some (.string x.z)) := fun W hW => (hW.cell (p := ⟨p0, 3, none⟩) HLT.out).trans (who_cell HR0.out).2.2.2
  refine wp_region_noPanic ?_
  refine wp_region_held_drew (S := fun W => Below w0.heap.size w0 W) (by kernel_rfl) ?_ (fun hHeld => ?_)
  · exact (Below.refl _ _).drew
  refine tkV 0 (v := ?_) (hw := ?_) (h := ?_)
  rotate_left
  · intro W hSW
    go_simp
    try with_reducible rfl
  try simp only [Act.put, List.setIfInBounds_toArray, List.set_cons_zero, List.set_cons_succ]
  refine tkY 1 (hy := (yieldsIf_load_str (by rfl) 9 _ rfl p0 0 rfl x.n (fun W hSW => HC0.out W hSW) Tryz.underlying9)) (h := ?_)
  try simp only [Act.put, List.setIfInBounds_toArray, List.set_cons_zero, List.set_cons_succ]
  refine tkY 2 (hy := (yieldsIf_eql (by rfl) .add 9 _ _ _ rfl (.string x.n) (.string ⟨#[32, 60]⟩) rfl rfl (.string (txt T1)) (guard_addn _ _ _ _) (fun W => HA1.out W))) (h := ?_)
  try simp only [Act.put, List.setIfInBounds_toArray, List.set_cons_zero, List.set_cons_succ]
  refine tkV 3 (v := ?_) (hw := ?_) (h := ?_)
  rotate_left
  · intro W hSW
    go_simp
    try with_reducible rfl
  try simp only [Act.put, List.setIfInBounds_toArray, List.set_cons_zero, List.set_cons_succ]
  refine tkY 4 (hy := (yieldsIf_load_str (by rfl) 9 _ rfl p0 1 rfl x.m (fun W hSW => HC1.out W hSW) Tryz.underlying9)) (h := ?_)
  try simp only [Act.put, List.setIfInBounds_toArray, List.set_cons_zero, List.set_cons_succ]
  refine tkY 5 (hy := (yieldsIf_eql (by rfl) .add 9 _ _ _ rfl (.string (txt T1)) (.string x.m) rfl rfl (.string (txt T2)) (guard_addn _ _ _ _) (fun W => HA2.out W))) (h := ?_)
  try simp only [Act.put, List.setIfInBounds_toArray, List.set_cons_zero, List.set_cons_succ]
  refine tkY 6 (hy := (yieldsIf_eql (by rfl) .add 9 _ _ _ rfl (.string (txt T2)) (.string ⟨#[62, 32]⟩) rfl rfl (.string (txt T3)) (guard_addn _ _ _ _) (fun W => HA3.out W))) (h := ?_)
  try simp only [Act.put, List.setIfInBounds_toArray, List.set_cons_zero, List.set_cons_succ]
  refine tkV 7 (v := ?_) (hw := ?_) (h := ?_)
  rotate_left
  · intro W hSW
    go_simp
    try with_reducible rfl
  try simp only [Act.put, List.setIfInBounds_toArray, List.set_cons_zero, List.set_cons_succ]
  refine tkY 8 (hy := (yieldsIf_load_int (by rfl) 3 _ rfl p0 2 rfl x.t (fun W hSW => HC2.out W hSW) Tryz.underlying3)) (h := ?_)
  try simp only [Act.put, List.setIfInBounds_toArray, List.set_cons_zero, List.set_cons_succ]
  refine tkV 12 (v := ?_) (hw := ?_) (h := ?_)
  rotate_left
  · intro W hSW
    go_simp
    try with_reducible rfl
  try simp only [Act.put, List.setIfInBounds_toArray, List.set_cons_zero, List.set_cons_succ]
  refine tkY 13 (hy := (yieldsIf_load_str (by rfl) 9 _ rfl p0 3 rfl x.z (fun W hSW => HC3.out W hSW) Tryz.underlying9)) (h := ?_)
  try simp only [Act.put, List.setIfInBounds_toArray, List.set_cons_zero, List.set_cons_succ]
  refine wpAnyH_ready (rs := [9]) (by kernel_rfl) (by simp) ?_
  refine AllReadyH.cons (by simp only [List.getElem?_toArray, List.getElem?_cons_succ, List.getElem?_cons_zero]; rfl) (fun K hK => ?_) AllReadyH.nil
  go_simp
  refine (decz_any x.t HTB.out.1 HTB.out.2 _ (HE.out.below (HB0.out.trans ((Below.refl w0.heap.size w0).drew.mono HB0.out.size))).tab).mono ?_
  rintro e v1 ⟨rfl, hb⟩
  have hb1 : Below w0.heap.size w0 v1 := (Below.refl _ _).drew.trans hb
  have HV1 := Lib.hid hb1
  clear hb hb1
  go_wp2_with fail
  refine hK.out _ _ (HV1.out) (fun hHeld2 => ?_)
  clear hK K hHeld
  have hHeld := hHeld2
  clear hHeld2
  try simp only [Act.put, List.setIfInBounds_toArray, List.set_cons_zero, List.set_cons_succ]
  refine tkY 10 (hy := (yieldsIf_eql (by rfl) .add 9 _ _ _ rfl (.string (txt T3)) (.string (txt (Lib.itoa x.t))) rfl rfl (.string (txt T4)) (guard_addn _ _ _ _) (fun W => HA4.out W))) (h := ?_)
  try simp only [Act.put, List.setIfInBounds_toArray, List.set_cons_zero, List.set_cons_succ]
  refine tkY 11 (hy := (yieldsIf_eql (by rfl) .add 9 _ _ _ rfl (.string (txt T4)) (.string ⟨#[32]⟩) rfl rfl (.string (txt T5)) (guard_addn _ _ _ _) (fun W => HA5.out W))) (h := ?_)
  try simp only [Act.put, List.setIfInBounds_toArray, List.set_cons_zero, List.set_cons_succ]
  refine tkY 14 (hy := (yieldsIf_eql (by rfl) .add 9 _ _ _ rfl (.string (txt T5)) (.string x.z) rfl rfl (.string (txt T6)) (guard_addn _ _ _ _) (fun W => HA6.out W))) (h := ?_)
  try simp only [Act.put, List.setIfInBounds_toArray, List.set_cons_zero, List.set_cons_succ]
  refine tkV 15 (v := ?_) (hw := ?_) (h := ?_)
  rotate_left
  · intro W hSW
    go_simp
    try with_reducible rfl
  try simp only [Act.put, List.setIfInBounds_toArray, List.set_cons_zero, List.set_cons_succ]
  refine wpAnyH_done (by kernel_rfl) ?_ _
  refine NoPanic.normal ?_
  clear hHeld
  go_wp2_with fail
  go_ret
  rw [HT6.out]
  exact ⟨rfl, HB0.out.trans (HV1.out.mono HB0.out.size)⟩
end Go.Proofs.YtkpiinjhcckhfaaGreatDoor
/-! A person's text and back: commit.Text, personOf, Person: the walks. -/
namespace Go.Proofs.YtkpiinjhcckhfaaGreatDoor
open Go.RowKit Plain
set_option linter.unusedVariables false
set_option linter.unusedSimpArgs false
theorem wpList_load_row_g {P : Program} {ops : Array Oper} {rest : List Oper} {o : Oper} {a : Act} {w : World} {Q : Exit → Act → World → Prop} (hw : Region.wanted o (yielded ops a.tmps) = true) (ty : TypeId) (x : Operand) (ho : o.op = .load ty x)
    (g : Nat) (hx : a.eval x = .pointer (some ⟨g, 0, none⟩)) (t : TypeId) (cs : Array Value) (fr : Nat × Nat) (d : TypeDesc) (hg : w.heap[g]? = some (.cells cs t fr))
    (hu : P.underlying ty = some d) (hd : (match d with | .struct _ | .array _ _ => true | _ => false) = true) (hi : (P.info? ty).map (·.size) = some cs.size)
    (h : wpList P ops Q rest (a.put o.dst (.agg cs)) w) : wpList P ops Q (o :: rest) a w := by
  unfold wpList
  rw [if_pos hw]
  exact .inl (wp_load_row ty x ho g hx t cs fr d hg hu hd hi h)
theorem build_who0 (W : World) : (Instr.build 31 #[]).run Tryz.prog W = .ok (.agg (whoA wzero)) W := run_build W _ _ _ (by kernel_rfl)
theorem build_who (n m z : ByteArray) (t : Int) (W : World) : (Instr.build 31 #[(0, .string n), (1, .string m), (2, .int .i64 t), (3, .string z)]).run Tryz.prog W = .ok (.agg (whoA ⟨n, m, t, z⟩)) W := run_build W _ _ _ (by kernel_rfl)
theorem info_who (x : WX) : (Tryz.prog.info? 31).map (·.size) = some (whoA x).size := by show _ = some 4; kernel_rfl
theorem who_one (x : WX) : (whoA x).all (·.oneCell') = true := by
  rw [Array.all_eq_true_iff_forall_mem]; intro v hv; simp [whoA] at hv; rcases hv with rfl | rfl | rfl | rfl <;> rfl
theorem map_four (a : Act) (x y z u : Operand) (v1 v2 v3 v4 : Value) (h1 : a.eval x = v1) (h2 : a.eval y = v2) (h3 : a.eval z = v3) (h4 : a.eval u = v4) : (#[(0, x), (1, y), (2, z), (3, u)] : Array (Nat × Operand)).map (fun (i, x) => (i, a.eval x)) = #[(0, v1), (1, v2), (2, v3), (3, v4)] := by simp [h1, h2, h3, h4]
theorem decF_le (l : List UInt8) : (decF l).1 ≤ 4611686018427387903 := by
  unfold decF
  split
  · split
    · rename_i h
      show Int.toNat _ ≤ _
      omega
    · show 0 ≤ _; omega
  · show 0 ≤ _; omega
theorem decF_snd (l : List UInt8) : (decF l).2 = 0 ∨ (decF l).2 = 4 := by
  unfold decF
  split
  · split
    · exact .inl rfl
    · exact .inr rfl
  · exact .inr rfl
set_option maxRecDepth 100000 in
set_option maxHeartbeats 8000000 in
theorem personOf_any (L : List UInt8) (w : World) (hE : EnvC w) (hL : L.length ≤ 40000) : Calls Tryz.prog 125 #[.string (txt L)] w fun e w' => (∃ x b, e = .returned (.tuple #[.agg (whoA x), .bool b]) ∧ personR L = (if b = true then some x else none) ∧ WhoSmall x) ∧ Below w.heap.size w w' := by
  have HE := Lib.hid hE
  have HWZ : Hid (WhoSmall wzero) := by show _ ∧ _ ∧ _ ∧ _ ∧ _; decide
  obtain ⟨N, R, b1, h1⟩ : ∃ N R b, Lib.cut L [32, 60] = (N, R, b) := ⟨_, _, _, rfl⟩
  obtain ⟨M, R2, b2, h2⟩ : ∃ N R' b, Lib.cut R [62, 32] = (N, R', b) := ⟨_, _, _, rfl⟩
  obtain ⟨D, Z, b3, h3⟩ : ∃ N R' b, Lib.cut R2 [32] = (N, R', b) := ⟨_, _, _, rfl⟩
  obtain ⟨r1, r2, h4⟩ : ∃ r1 r2, decF D = (r1, r2) := ⟨_, _, rfl⟩
  have HP : Hid (personR L = if b1 = true then (if b2 = true then (if b3 = true ∧ r2 = 0 then some ⟨txt N, txt M, (r1 : Nat), txt Z⟩ else none) else none) else none) := by
    show _ = _
    unfold personR
    simp only [h1, h2, h3, h4]
  have l1 := cutS_len L [32, 60]
  rw [h1] at l1
  have l2 := cutS_len R [62, 32]
  rw [h2] at l2
  have l3 := cutS_len R2 [32]
  rw [h3] at l3
  dsimp only at l1 l2 l3
  have HC1 : Hid (∀ W, Env W → Calls Tryz.prog 78 #[.string (txt L), .string ⟨#[32, 60]⟩] W fun e w' => e = .returned (.tuple #[.string (txt N), .string (txt R), .bool b1]) ∧ Below W.heap.size W w') := fun W hW => by
    have := cutS_any L [32, 60] W hW (by omega)
    rw [h1] at this; exact this
  have HC2 : Hid (∀ W, Env W → Calls Tryz.prog 78 #[.string (txt R), .string ⟨#[62, 32]⟩] W fun e w' => e = .returned (.tuple #[.string (txt M), .string (txt R2), .bool b2]) ∧ Below W.heap.size W w') := fun W hW => by
    have := cutS_any R [62, 32] W hW (by omega)
    rw [h2] at this; exact this
  have HC3 : Hid (∀ W, Env W → Calls Tryz.prog 78 #[.string (txt R2), .string ⟨#[32]⟩] W fun e w' => e = .returned (.tuple #[.string (txt D), .string (txt Z), .bool b3]) ∧ Below W.heap.size W w') := fun W hW => by
    have := cutS_any R2 [32] W hW (by omega)
    rw [h3] at this; exact this
  have HC4 : Hid (∀ W, EnvC W → Calls Tryz.prog 101 #[.string (txt D)] W fun e w' => e = .returned (.tuple #[.int .i64 (r1 : Nat), .int .i64 (r2 : Nat)]) ∧ Below W.heap.size W w') := fun W hW => by
    have := fromDec_any (txt D) (by rw [txt_size]; omega) W hW.tab hW.errs
    rw [txt_list, h4] at this; exact this
  have h5 := decF_le D
  have h6 := decF_snd D
  rw [h4] at h5 h6
  dsimp only at h5 h6
  have HWX : Hid (WhoSmall ⟨txt N, txt M, (r1 : Nat), txt Z⟩) := by
    refine ⟨?_, ?_, ?_, ?_, ?_⟩
    · show (txt N).size ≤ _; rw [txt_size]; omega
    · show (txt M).size ≤ _; rw [txt_size]; omega
    · show (txt Z).size ≤ _; rw [txt_size]; omega
    · show _ ≤ (r1 : Int); omega
    · show (r1 : Int) ≤ _; omega
  have H6 := Lib.hid h6
  have HBA0 : Hid (Below w.heap.size w (w.alloc (.cells #[.string ⟨#[]⟩, .string ⟨#[]⟩, .int .i64 0, .string ⟨#[]⟩] 31))) := (Below.refl _ _).alloc (Nat.le_refl _) _
  have HZ0 : Hid ((w.alloc (.cells #[.string ⟨#[]⟩, .string ⟨#[]⟩, .int .i64 0, .string ⟨#[]⟩] 31)).heap[w.heap.size]? = some (.cells #[.string ⟨#[]⟩, .string ⟨#[]⟩, .int .i64 0, .string ⟨#[]⟩] 31 (0, 0))) := heap_alloc_new _ _
  clear hE hL h1 h2 h3 h4 h5 h6 l1 l2 l3
  go_enter Tryz.func125, Tryz.ntmps125
  go_wp2_with fail
  generalize w.alloc (.cells #[.string ⟨#[]⟩, .string ⟨#[]⟩, .int .i64 0, .string ⟨#[]⟩] 31) = w0 at *
  obtain ⟨b0, hb0⟩ : ∃ p, w.heap.size = p := ⟨_, rfl⟩
  rw [hb0] at HZ0
  simp only [hb0]
  have HB0 : Hid (Below b0 w w0) := by rw [← hb0]; exact HBA0.out
  have HB0E : Hid (b0 ≤ b0) := Nat.le_refl _
  have HE0 : Hid (EnvC w0) := HE.out.below HBA0.out
  have HPE := Lib.hid hb0
  clear hb0 HBA0
  refine (HC1.out w0 HE0.out.env).mono ?_
  rintro e w1 ⟨rfl, hb⟩
  have HB1 := Lib.hid (HB0.out.trans (hb.mono (by have := (Array.getElem?_eq_some_iff.1 HZ0.out).1; omega)))
  have HE1 := Lib.hid (HE0.out.below hb)
  have HZ1 := Lib.hid ((hb.block b0 (Array.getElem?_eq_some_iff.1 HZ0.out).1).trans HZ0.out)
  clear hb HC1 HB0 HE0 HZ0
  cases b1
  · go_wp2_with (first
      | refine wpList_buildQ rfl 31 _ rfl #[] (by rfl) _ build_who0 ?_
      | refine wpList_store_row rfl 31 _ _ rfl b0 (whoA wzero) rfl rfl 31 #[.string ⟨#[]⟩, .string ⟨#[]⟩, .int .i64 0, .string ⟨#[]⟩] HZ1.out (info_who _) rfl (who_one _) ?_)
    refine bodyPost_ret (results_row_tmp Tryz.results125 _ _ b0 31 (whoA wzero) (0, 0) _ rfl (setRow_heap _ _ _ _ _ _ HZ1.out) Tryz.underlying31 rfl (info_who _)) rfl ⟨⟨wzero, false, rfl, by rw [HP.out] <;> rfl, HWZ.out⟩, by rw [HPE.out]; exact below_setRow HB1.out HB0E.out _⟩
  go_wp2_with fail
  refine (HC2.out w1 HE1.out.env).mono ?_
  rintro e w2 ⟨rfl, hb⟩
  have HB2 := Lib.hid (HB1.out.trans (hb.mono (by have := (Array.getElem?_eq_some_iff.1 HZ1.out).1; omega)))
  have HE2 := Lib.hid (HE1.out.below hb)
  have HZ2 := Lib.hid ((hb.block b0 (Array.getElem?_eq_some_iff.1 HZ1.out).1).trans HZ1.out)
  clear hb HC2 HB1 HE1 HZ1
  cases b2
  · go_wp2_with (first
      | refine wpList_buildQ rfl 31 _ rfl #[] (by rfl) _ build_who0 ?_
      | refine wpList_store_row rfl 31 _ _ rfl b0 (whoA wzero) rfl rfl 31 #[.string ⟨#[]⟩, .string ⟨#[]⟩, .int .i64 0, .string ⟨#[]⟩] HZ2.out (info_who _) rfl (who_one _) ?_)
    refine bodyPost_ret (results_row_tmp Tryz.results125 _ _ b0 31 (whoA wzero) (0, 0) _ rfl (setRow_heap _ _ _ _ _ _ HZ2.out) Tryz.underlying31 rfl (info_who _)) rfl ⟨⟨wzero, false, rfl, by rw [HP.out] <;> rfl, HWZ.out⟩, by rw [HPE.out]; exact below_setRow HB2.out HB0E.out _⟩
  go_wp2_with fail
  refine (HC3.out w2 HE2.out.env).mono ?_
  rintro e w3 ⟨rfl, hb⟩
  have HB3 := Lib.hid (HB2.out.trans (hb.mono (by have := (Array.getElem?_eq_some_iff.1 HZ2.out).1; omega)))
  have HE3 := Lib.hid (HE2.out.below hb)
  have HZ3 := Lib.hid ((hb.block b0 (Array.getElem?_eq_some_iff.1 HZ2.out).1).trans HZ2.out)
  clear hb HC3 HB2 HE2 HZ2
  go_wp2_with fail
  refine (HC4.out w3 HE3.out).mono ?_
  rintro e w4 ⟨rfl, hb⟩
  have HB4 := Lib.hid (HB3.out.trans (hb.mono (by have := (Array.getElem?_eq_some_iff.1 HZ3.out).1; omega)))
  have HZ4 := Lib.hid ((hb.block b0 (Array.getElem?_eq_some_iff.1 HZ3.out).1).trans HZ3.out)
  clear hb HC4 HB3 HE3 HZ3
  have h6 := H6.out
  clear H6
  cases b3
  all_goals rcases h6 with rfl | rfl
  all_goals
    go_wp2_with (first
      | refine wpList_buildQ rfl 31 _ rfl #[(0, .string (txt N)), (1, .string (txt M)), (2, .int .i64 (r1 : Nat)), (3, .string (txt Z))] (map_four _ _ _ _ _ _ _ _ _ rfl rfl rfl rfl) _ (build_who _ _ _ _) ?_
      | refine wpList_store_row rfl 31 _ _ rfl b0 (whoA ⟨txt N, txt M, (r1 : Nat), txt Z⟩) rfl rfl 31 #[.string ⟨#[]⟩, .string ⟨#[]⟩, .int .i64 0, .string ⟨#[]⟩] HZ4.out (info_who _) rfl (who_one _) ?_)
    refine bodyPost_ret (results_row_tmp Tryz.results125 _ _ b0 31 (whoA ⟨txt N, txt M, (r1 : Nat), txt Z⟩) (0, 0) _ rfl (setRow_heap _ _ _ _ _ _ HZ4.out) Tryz.underlying31 rfl (info_who _)) rfl ⟨⟨⟨txt N, txt M, (r1 : Nat), txt Z⟩, _, rfl, by rw [HP.out] <;> rfl, HWX.out⟩, by rw [HPE.out]; exact below_setRow HB4.out HB0E.out _⟩
set_option maxRecDepth 100000 in
set_option maxHeartbeats 8000000 in
theorem person_any (L : List UInt8) (w : World) (hE : EnvC w) (hL : L.length ≤ 40000) : Calls Tryz.prog 111 #[.string (txt L)] w fun e w' => e = .returned (.tuple #[.agg (whoA (personE L).1), .int .i64 ((personE L).2 : Nat)]) ∧ Below w.heap.size w w' := by
  have HE := Lib.hid hE
  have HC : Hid (∀ W, EnvC W → Calls Tryz.prog 125 #[.string (txt L)] W fun e w' => (∃ x b, e = .returned (.tuple #[.agg (whoA x), .bool b]) ∧ personR L = (if b = true then some x else none) ∧ WhoSmall x) ∧ Below W.heap.size W w') := fun W hW => personOf_any L W hW hL
  have HBA0 : Hid (Below w.heap.size w (w.alloc (.cells #[.string ⟨#[]⟩, .string ⟨#[]⟩, .int .i64 0, .string ⟨#[]⟩] 31))) := (Below.refl _ _).alloc (Nat.le_refl _) _
  have HZ0 : Hid ((w.alloc (.cells #[.string ⟨#[]⟩, .string ⟨#[]⟩, .int .i64 0, .string ⟨#[]⟩] 31)).heap[w.heap.size]? = some (.cells #[.string ⟨#[]⟩, .string ⟨#[]⟩, .int .i64 0, .string ⟨#[]⟩] 31 (0, 0))) := heap_alloc_new _ _
  clear hE hL
  go_enter Tryz.func111, Tryz.ntmps111
  go_wp2_with fail
  generalize w.alloc (.cells #[.string ⟨#[]⟩, .string ⟨#[]⟩, .int .i64 0, .string ⟨#[]⟩] 31) = w0 at *
  obtain ⟨b0, hb0⟩ : ∃ p, w.heap.size = p := ⟨_, rfl⟩
  rw [hb0] at HZ0
  simp only [hb0]
  have HB0 : Hid (Below b0 w w0) := by rw [← hb0]; exact HBA0.out
  have HB0E : Hid (b0 ≤ b0) := Nat.le_refl _
  have HE0 : Hid (EnvC w0) := HE.out.below HBA0.out
  have HPE := Lib.hid hb0
  clear hb0 HBA0
  refine (HC.out w0 HE0.out).mono ?_
  rintro e w1 ⟨⟨x, b, rfl, hpr, hws⟩, hb⟩
  have HPR := Lib.hid hpr
  have HWS := Lib.hid hws
  have HB1 := Lib.hid (HB0.out.trans (hb.mono (by have := (Array.getElem?_eq_some_iff.1 HZ0.out).1; omega)))
  have HZ1 := Lib.hid ((hb.block b0 (Array.getElem?_eq_some_iff.1 HZ0.out).1).trans HZ0.out)
  have HL1 : Hid (b0 < w1.heap.size) := (Array.getElem?_eq_some_iff.1 HZ1.out).1
  clear hb hpr hws HC HB0 HE0 HZ0
  have HBA2 : Hid (Below w1.heap.size w1 (w1.alloc (.cells #[.string ⟨#[]⟩, .string ⟨#[]⟩, .int .i64 0, .string ⟨#[]⟩] 31))) := (Below.refl _ _).alloc (Nat.le_refl _) _
  have HZ2 : Hid ((w1.alloc (.cells #[.string ⟨#[]⟩, .string ⟨#[]⟩, .int .i64 0, .string ⟨#[]⟩] 31)).heap[w1.heap.size]? = some (.cells #[.string ⟨#[]⟩, .string ⟨#[]⟩, .int .i64 0, .string ⟨#[]⟩] 31 (0, 0))) := heap_alloc_new _ _
  cases b
  · have HF : Hid (personE L = (wzero, 4)) := by show _ = _; unfold personE; rw [HPR.out]; rfl
    have HR2 : Hid (((w1.alloc (.cells #[.string ⟨#[]⟩, .string ⟨#[]⟩, .int .i64 0, .string ⟨#[]⟩] 31)).setRow w1.heap.size (whoA x)).heap[w1.heap.size]? = some (.cells (whoA x) 31 (0, 0))) := setRow_heap _ _ _ _ _ _ HZ2.out
    have HB2 : Hid (Below w1.heap.size w1 ((w1.alloc (.cells #[.string ⟨#[]⟩, .string ⟨#[]⟩, .int .i64 0, .string ⟨#[]⟩] 31)).setRow w1.heap.size (whoA x))) := below_setRow HBA2.out (Nat.le_refl _) _
    have HZ3 := Lib.hid ((HB2.out.block b0 HL1.out).trans HZ1.out)
    have HB3 := Lib.hid (HB1.out.trans (HB2.out.mono (Nat.le_of_lt HL1.out)))
    go_wp2_with (first
      | refine wpList_store_row rfl 31 _ _ rfl w1.heap.size (whoA x) rfl rfl 31 #[.string ⟨#[]⟩, .string ⟨#[]⟩, .int .i64 0, .string ⟨#[]⟩] HZ2.out (info_who _) rfl (who_one _) ?_
      | refine wpList_buildQ rfl 31 _ rfl #[] (by rfl) _ build_who0 ?_
      | refine wpList_store_row rfl 31 _ _ rfl b0 (whoA wzero) rfl rfl 31 #[.string ⟨#[]⟩, .string ⟨#[]⟩, .int .i64 0, .string ⟨#[]⟩] HZ3.out (info_who _) rfl (who_one _) ?_)
    refine bodyPost_ret (results_row_tmp Tryz.results111 _ _ b0 31 (whoA wzero) (0, 0) _ rfl (setRow_heap _ _ _ _ _ _ HZ3.out) Tryz.underlying31 rfl (info_who _)) rfl ⟨by rw [HF.out] <;> rfl, by rw [HPE.out]; exact below_setRow HB3.out HB0E.out _⟩
  · have HR2 : Hid (((w1.alloc (.cells #[.string ⟨#[]⟩, .string ⟨#[]⟩, .int .i64 0, .string ⟨#[]⟩] 31)).setRow w1.heap.size (whoA x)).heap[w1.heap.size]? = some (.cells (whoA x) 31 (0, 0))) := setRow_heap _ _ _ _ _ _ HZ2.out
    have HB2 : Hid (Below w1.heap.size w1 ((w1.alloc (.cells #[.string ⟨#[]⟩, .string ⟨#[]⟩, .int .i64 0, .string ⟨#[]⟩] 31)).setRow w1.heap.size (whoA x))) := below_setRow HBA2.out (Nat.le_refl _) _
    have HZ3 := Lib.hid ((HB2.out.block b0 HL1.out).trans HZ1.out)
    have HB3 := Lib.hid (HB1.out.trans (HB2.out.mono (Nat.le_of_lt HL1.out)))
    go_wp2_with (first
      | refine wpList_store_row rfl 31 _ _ rfl w1.heap.size (whoA x) rfl rfl 31 #[.string ⟨#[]⟩, .string ⟨#[]⟩, .int .i64 0, .string ⟨#[]⟩] HZ2.out (info_who _) rfl (who_one _) ?_
      | refine wpList_load_row_g rfl 31 _ rfl w1.heap.size rfl 31 (whoA x) (0, 0) _ HR2.out Tryz.underlying31 rfl (info_who x) ?_)
    generalize (w1.alloc (.cells #[.string ⟨#[]⟩, .string ⟨#[]⟩, .int .i64 0, .string ⟨#[]⟩] 31)).setRow w1.heap.size (whoA x) = w2 at *
    refine (who_any x w2 HWS.out).mono ?_
    rintro e w3 ⟨rfl, hb⟩
    have HR3 := Lib.hid ((hb.block w1.heap.size (Array.getElem?_eq_some_iff.1 HR2.out).1).trans HR2.out)
    have HZ4 := Lib.hid ((hb.block b0 (Array.getElem?_eq_some_iff.1 HZ3.out).1).trans HZ3.out)
    have HB4 := Lib.hid (HB3.out.trans (hb.mono (by have := (Array.getElem?_eq_some_iff.1 HZ3.out).1; omega)))
    clear hb
    cases hr : whoB x
    · have HF : Hid (personE L = (wzero, 4)) := by show _ = _; unfold personE; simp [HPR.out, hr]
      clear hr
      go_wp2_with (first
        | refine wpList_buildQ rfl 31 _ rfl #[] (by rfl) _ build_who0 ?_
        | refine wpList_store_row rfl 31 _ _ rfl b0 (whoA wzero) rfl rfl 31 #[.string ⟨#[]⟩, .string ⟨#[]⟩, .int .i64 0, .string ⟨#[]⟩] HZ4.out (info_who _) rfl (who_one _) ?_)
      refine bodyPost_ret (results_row_tmp Tryz.results111 _ _ b0 31 (whoA wzero) (0, 0) _ rfl (setRow_heap _ _ _ _ _ _ HZ4.out) Tryz.underlying31 rfl (info_who _)) rfl ⟨by rw [HF.out] <;> rfl, by rw [HPE.out]; exact below_setRow HB4.out HB0E.out _⟩
    · have HF : Hid (personE L = (x, 0)) := by show _ = _; unfold personE; simp [HPR.out, hr]
      clear hr
      go_wp2_with (first
        | refine wpList_load_row rfl 31 _ rfl w1.heap.size rfl 31 (whoA x) (0, 0) _ HR3.out Tryz.underlying31 rfl (info_who x) ?_
        | refine wpList_store_row rfl 31 _ _ rfl b0 (whoA x) rfl rfl 31 #[.string ⟨#[]⟩, .string ⟨#[]⟩, .int .i64 0, .string ⟨#[]⟩] HZ4.out (info_who _) rfl (who_one _) ?_)
      refine bodyPost_ret (results_row_tmp Tryz.results111 _ _ b0 31 (whoA x) (0, 0) _ rfl (setRow_heap _ _ _ _ _ _ HZ4.out) Tryz.underlying31 rfl (info_who _)) rfl ⟨by rw [HF.out] <;> rfl, by rw [HPE.out]; exact below_setRow HB4.out HB0E.out _⟩
end Go.Proofs.YtkpiinjhcckhfaaGreatDoor
/-! An extra: right, text; a line is written: the walks. -/
namespace Go.Proofs.YtkpiinjhcckhfaaGreatDoor
open Go.RowKit Plain
set_option linter.unusedVariables false
set_option linter.unusedSimpArgs false
def extR (x : ByteArray × ByteArray) : Bool := !(x.1.data.toList == [] || x.1.data.toList == [116, 114, 101, 101] || x.1.data.toList == [112, 97, 114, 101, 110, 116] || x.1.data.toList == [97, 117, 116, 104, 111, 114] || x.1.data.toList == [99, 111, 109, 109, 105, 116, 116, 101, 114]) && noAny [32, 10] x.1.data.toList
def extT (x : ByteArray × ByteArray) : List UInt8 := x.1.data.toList ++ [32] ++ Lib.replaceAll x.2.data.toList [10] [10, 32]
def ExtSmall (x : ByteArray × ByteArray) : Prop := x.1.size ≤ 40000 ∧ x.2.size ≤ 40000
theorem replaceK_len (old new : List UInt8) : ∀ (k : Nat) (s : List UInt8), (Lib.replaceK old new k s).length ≤ s.length + k * new.length
  | 0, s => by simp [Lib.replaceK]
  | k + 1, s => by
    unfold Lib.replaceK
    split
    · exact Nat.le_add_right _ _
    · have ih := replaceK_len old new k (s.drop ((Lib.index s old).toNat + old.length))
      rw [List.length_drop] at ih
      rw [List.length_append, List.length_append, List.length_take, Nat.succ_mul]
      omega
theorem replace_len (s old new : List UInt8) : (Lib.replaceAll s old new).length ≤ s.length + (s.length + 1) * new.length := by
  unfold Lib.replaceAll Lib.replace
  split
  · omega
  · refine Nat.le_trans (replaceK_len _ _ _ _) (Nat.add_le_add_left (Nat.mul_le_mul_right _ ?_) _)
    unfold Lib.replaceNum
    rw [if_pos (.inl (by decide))]
    exact Lib.count_le _ _
theorem extT_len {x : ByteArray × ByteArray} (h : ExtSmall x) : (extT x).length ≤ 160003 := by
  have h1 := replace_len x.2.data.toList [10] [10, 32]
  unfold extT
  rw [List.length_append, List.length_append]
  obtain ⟨h2, h3⟩ := h
  rw [Lib.size_eq] at h2 h3
  simp only [List.length_cons, List.length_nil] at h1 ⊢
  omega
set_option maxRecDepth 100000 in
set_option maxHeartbeats 8000000 in
theorem extright_any (x : ByteArray × ByteArray) (w : World) (hs : ExtSmall x) : Calls Tryz.prog 73 #[.agg (extE x).toArray] w fun e w' => e = .returned (.bool (extR x)) ∧ Below w.heap.size w w' := by
  have HB0 : Hid (Below w.heap.size w (w.alloc (.cells (extE x).toArray 69))) := (Below.refl _ _).alloc (Nat.le_refl _) _
  have HR0 : Hid ((w.alloc (.cells (extE x).toArray 69)).heap[w.heap.size]? = some (.cells (extE x).toArray 69 (0, 0))) := heap_alloc_new _ _
  have hc0 : (w.alloc (.cells (extE x).toArray 69)).cell? ⟨w.heap.size, 0, none⟩ = some (.string x.1) := by rw [cell_of_row _ _ _ _ _ _ HR0.out]; rfl
  obtain ⟨e0, he0⟩ : ∃ e, (x.1.data.toList == []) = e := ⟨_, rfl⟩
  have HE0 : Hid (∀ W, (binOp .eql 9 (.string x.1) (.string ⟨#[]⟩)).run Tryz.prog W = .ok (.bool e0) W) := fun W => by rw [str_eql, ← he0]
  obtain ⟨e1, he1⟩ : ∃ e, (x.1.data.toList == [116, 114, 101, 101]) = e := ⟨_, rfl⟩
  have HE1 : Hid (∀ W, (binOp .eql 9 (.string x.1) (.string ⟨#[116, 114, 101, 101]⟩)).run Tryz.prog W = .ok (.bool e1) W) := fun W => by rw [str_eql, ← he1]
  obtain ⟨e2, he2⟩ : ∃ e, (x.1.data.toList == [112, 97, 114, 101, 110, 116]) = e := ⟨_, rfl⟩
  have HE2 : Hid (∀ W, (binOp .eql 9 (.string x.1) (.string ⟨#[112, 97, 114, 101, 110, 116]⟩)).run Tryz.prog W = .ok (.bool e2) W) := fun W => by rw [str_eql, ← he2]
  obtain ⟨e3, he3⟩ : ∃ e, (x.1.data.toList == [97, 117, 116, 104, 111, 114]) = e := ⟨_, rfl⟩
  have HE3 : Hid (∀ W, (binOp .eql 9 (.string x.1) (.string ⟨#[97, 117, 116, 104, 111, 114]⟩)).run Tryz.prog W = .ok (.bool e3) W) := fun W => by rw [str_eql, ← he3]
  obtain ⟨e4, he4⟩ : ∃ e, (x.1.data.toList == [99, 111, 109, 109, 105, 116, 116, 101, 114]) = e := ⟨_, rfl⟩
  have HE4 : Hid (∀ W, (binOp .eql 9 (.string x.1) (.string ⟨#[99, 111, 109, 109, 105, 116, 116, 101, 114]⟩)).run Tryz.prog W = .ok (.bool e4) W) := fun W => by rw [str_eql, ← he4]
  have HX : Hid (extR x = (!(e0 || e1 || e2 || e3 || e4) && noAny [32, 10] x.1.data.toList)) := by show _ = _; unfold extR; rw [he0, he1, he2, he3, he4]
  have HC := Lib.hid fun W => containsAny_any x.1 ⟨#[32, 10]⟩ W (by have := hs.1; omega) (by decide) (by decide) (by unfold Ascii; decide)
  simp only [containsAny_has] at HC
  clear he0 he1 he2 he3 he4 hs
  cases e0
  rotate_left
  · have HF : Hid (extR x = false) := by show _ = _; rw [HX.out]; rfl
    have H0 := HE0
    go_enter Tryz.func73, Tryz.ntmps73
    go_wp2_with (first

      | refine wpList_eql (by rfl) .eql 9 _ _ _ rfl (.string x.1) (.string ⟨#[]⟩) rfl rfl (.bool true) (guard_eq _ _ _ _) H0.out ?_)
    go_ret
    exact ⟨by rw [HF.out] <;> rfl, HB0.out⟩
  cases e1
  rotate_left
  · have HF : Hid (extR x = false) := by show _ = _; rw [HX.out]; rfl
    have H0 := HE0
    have H1 := HE1
    go_enter Tryz.func73, Tryz.ntmps73
    go_wp2_with (first
      | refine wpList_eql (by rfl) .eql 9 _ _ _ rfl (.string x.1) (.string ⟨#[]⟩) rfl rfl (.bool false) (guard_eq _ _ _ _) H0.out ?_
      | refine wpList_eql (by rfl) .eql 9 _ _ _ rfl (.string x.1) (.string ⟨#[116, 114, 101, 101]⟩) rfl rfl (.bool true) (guard_eq _ _ _ _) H1.out ?_)
    go_ret
    exact ⟨by rw [HF.out] <;> rfl, HB0.out⟩
  cases e2
  rotate_left
  · have HF : Hid (extR x = false) := by show _ = _; rw [HX.out]; rfl
    have H0 := HE0
    have H1 := HE1
    have H2 := HE2
    go_enter Tryz.func73, Tryz.ntmps73
    go_wp2_with (first
      | refine wpList_eql (by rfl) .eql 9 _ _ _ rfl (.string x.1) (.string ⟨#[]⟩) rfl rfl (.bool false) (guard_eq _ _ _ _) H0.out ?_
      | refine wpList_eql (by rfl) .eql 9 _ _ _ rfl (.string x.1) (.string ⟨#[116, 114, 101, 101]⟩) rfl rfl (.bool false) (guard_eq _ _ _ _) H1.out ?_
      | refine wpList_eql (by rfl) .eql 9 _ _ _ rfl (.string x.1) (.string ⟨#[112, 97, 114, 101, 110, 116]⟩) rfl rfl (.bool true) (guard_eq _ _ _ _) H2.out ?_)
    go_ret
    exact ⟨by rw [HF.out] <;> rfl, HB0.out⟩
  cases e3
  rotate_left
  · have HF : Hid (extR x = false) := by show _ = _; rw [HX.out]; rfl
    have H0 := HE0
    have H1 := HE1
    have H2 := HE2
    have H3 := HE3
    go_enter Tryz.func73, Tryz.ntmps73
    go_wp2_with (first
      | refine wpList_eql (by rfl) .eql 9 _ _ _ rfl (.string x.1) (.string ⟨#[]⟩) rfl rfl (.bool false) (guard_eq _ _ _ _) H0.out ?_
      | refine wpList_eql (by rfl) .eql 9 _ _ _ rfl (.string x.1) (.string ⟨#[116, 114, 101, 101]⟩) rfl rfl (.bool false) (guard_eq _ _ _ _) H1.out ?_
      | refine wpList_eql (by rfl) .eql 9 _ _ _ rfl (.string x.1) (.string ⟨#[112, 97, 114, 101, 110, 116]⟩) rfl rfl (.bool false) (guard_eq _ _ _ _) H2.out ?_
      | refine wpList_eql (by rfl) .eql 9 _ _ _ rfl (.string x.1) (.string ⟨#[97, 117, 116, 104, 111, 114]⟩) rfl rfl (.bool true) (guard_eq _ _ _ _) H3.out ?_)
    go_ret
    exact ⟨by rw [HF.out] <;> rfl, HB0.out⟩
  cases e4
  rotate_left
  · have HF : Hid (extR x = false) := by show _ = _; rw [HX.out]; rfl
    have H0 := HE0
    have H1 := HE1
    have H2 := HE2
    have H3 := HE3
    have H4 := HE4
    go_enter Tryz.func73, Tryz.ntmps73
    go_wp2_with (first
      | refine wpList_eql (by rfl) .eql 9 _ _ _ rfl (.string x.1) (.string ⟨#[]⟩) rfl rfl (.bool false) (guard_eq _ _ _ _) H0.out ?_
      | refine wpList_eql (by rfl) .eql 9 _ _ _ rfl (.string x.1) (.string ⟨#[116, 114, 101, 101]⟩) rfl rfl (.bool false) (guard_eq _ _ _ _) H1.out ?_
      | refine wpList_eql (by rfl) .eql 9 _ _ _ rfl (.string x.1) (.string ⟨#[112, 97, 114, 101, 110, 116]⟩) rfl rfl (.bool false) (guard_eq _ _ _ _) H2.out ?_
      | refine wpList_eql (by rfl) .eql 9 _ _ _ rfl (.string x.1) (.string ⟨#[97, 117, 116, 104, 111, 114]⟩) rfl rfl (.bool false) (guard_eq _ _ _ _) H3.out ?_
      | refine wpList_eql (by rfl) .eql 9 _ _ _ rfl (.string x.1) (.string ⟨#[99, 111, 109, 109, 105, 116, 116, 101, 114]⟩) rfl rfl (.bool true) (guard_eq _ _ _ _) H4.out ?_)
    go_ret
    exact ⟨by rw [HF.out] <;> rfl, HB0.out⟩
  obtain ⟨b, hb⟩ : ∃ b, (x.1.data.toList.any fun c => ([32, 10] : List UInt8).contains c) = b := ⟨_, rfl⟩
  have HBB := Lib.hid hb
  have HF : Hid (extR x = !b) := by show _ = _; rw [HX.out]; unfold noAny; rw [hb]; rfl
  clear hb
  have H0 := HE0
  have H1 := HE1
  have H2 := HE2
  have H3 := HE3
  have H4 := HE4
  go_enter Tryz.func73, Tryz.ntmps73
  go_wp2_with (first
    | refine wpList_eql (by rfl) .eql 9 _ _ _ rfl (.string x.1) (.string ⟨#[]⟩) rfl rfl (.bool false) (guard_eq _ _ _ _) H0.out ?_
    | refine wpList_eql (by rfl) .eql 9 _ _ _ rfl (.string x.1) (.string ⟨#[116, 114, 101, 101]⟩) rfl rfl (.bool false) (guard_eq _ _ _ _) H1.out ?_
    | refine wpList_eql (by rfl) .eql 9 _ _ _ rfl (.string x.1) (.string ⟨#[112, 97, 114, 101, 110, 116]⟩) rfl rfl (.bool false) (guard_eq _ _ _ _) H2.out ?_
    | refine wpList_eql (by rfl) .eql 9 _ _ _ rfl (.string x.1) (.string ⟨#[97, 117, 116, 104, 111, 114]⟩) rfl rfl (.bool false) (guard_eq _ _ _ _) H3.out ?_
    | refine wpList_eql (by rfl) .eql 9 _ _ _ rfl (.string x.1) (.string ⟨#[99, 111, 109, 109, 105, 116, 116, 101, 114]⟩) rfl rfl (.bool false) (guard_eq _ _ _ _) H4.out ?_)
  refine (HC.out _).mono ?_
  rintro e w' ⟨rfl, hb⟩
  rw [HBB.out]
  have HB1 := Lib.hid (HB0.out.trans (hb.mono HB0.out.size))
  clear hb
  go_wp2_with fail
  go_ret
  exact ⟨by rw [HF.out] <;> rfl, HB1.out⟩
set_option maxRecDepth 100000 in
set_option maxHeartbeats 8000000 in
theorem exttext_any (x : ByteArray × ByteArray) (w : World) (hE : EnvC w) (hs : ExtSmall x) : Calls Tryz.prog 50 #[.agg (extE x).toArray] w fun e w' => e = .returned (.string (txt (extT x))) ∧ Below w.heap.size w w' := by
  have HB0 : Hid (Below w.heap.size w (w.alloc (.cells (extE x).toArray 69))) := (Below.refl _ _).alloc (Nat.le_refl _) _
  have HR0 : Hid ((w.alloc (.cells (extE x).toArray 69)).heap[w.heap.size]? = some (.cells (extE x).toArray 69 (0, 0))) := heap_alloc_new _ _
  have HE1 : Hid (EnvC (w.alloc (.cells (extE x).toArray 69))) := hE.below HB0.out
  have h1 := hs.1
  have h2 := hs.2
  have h3 := replace_len x.2.data.toList [10] [10, 32]
  rw [← Lib.size_eq] at h3
  simp only [List.length_cons, List.length_nil] at h3
  obtain ⟨T1, hT1⟩ : ∃ l, x.1.data.toList ++ [32] = l := ⟨_, rfl⟩
  obtain ⟨T2, hT2⟩ : ∃ l, Lib.replaceAll x.2.data.toList [10] [10, 32] = l := ⟨_, rfl⟩
  obtain ⟨T3, hT3⟩ : ∃ l, T1 ++ T2 = l := ⟨_, rfl⟩
  have l1 : T1.length ≤ 40001 := by rw [← hT1, List.length_append, ← Lib.size_eq]; simp; omega
  have l2 : T2.length ≤ 120002 := by rw [← hT2]; omega
  have HA1 : Hid (∀ W, (binOp .add 9 (.string x.1) (.string ⟨#[32]⟩)).run Tryz.prog W = .ok (.string (txt T1)) W) := fun W => add_txt _ _ _ hT1 (by show _ + 1 ≤ _; omega) W
  have HA2 : Hid (∀ W, (binOp .add 9 (.string (txt T1)) (.string (txt T2))).run Tryz.prog W = .ok (.string (txt T3)) W) := fun W => add_txt _ _ _ (by rw [txt_list, txt_list]; exact hT3) (by rw [txt_size, txt_size]; omega) W
  have HT : Hid (extT x = T3) := by show _ = _; rw [← hT3, ← hT2, ← hT1]; rfl
  have HRA : Hid (∀ W, (∃ m, W.cell? ⟨0, 0, none⟩ = some (.int .i64 m)) → Calls Tryz.prog 76 #[.string x.2, .string ⟨#[10]⟩, .string ⟨#[10, 32]⟩] W fun e w' => e = .returned (.string (txt T2)) ∧ Below W.heap.size W w') := fun W ⟨m, hm⟩ => by
    have h := Tryz.strings_ReplaceAll x.2 ⟨#[10]⟩ ⟨#[10, 32]⟩ m W (by omega) hm (by decide) (by
      have := Lib.countB_le (⟨#[10]⟩ : ByteArray) (by decide) _ x.2 (Nat.le_refl _)
      show _ + _ * 2 ≤ _
      omega)
    rw [show (⟨(Lib.replaceAll x.2.data.toList (⟨#[10]⟩ : ByteArray).data.toList (⟨#[10, 32]⟩ : ByteArray).data.toList).toArray⟩ : ByteArray) = txt T2 by rw [← hT2]; rfl] at h
    exact h
  clear hE hs h1 h2 h3 l1 l2 hT1 hT2 hT3
  go_enter Tryz.func50, Tryz.ntmps50
  go_wp2_with fail
  generalize w.alloc (.cells (extE x).toArray 69) = w0 at *
  obtain ⟨p0, hp0⟩ : ∃ p, w.heap.size = p := ⟨_, rfl⟩
  rw [hp0] at HR0
  simp only [hp0]
  have HPE := Lib.hid hp0
  clear hp0
  have hmw := HE1.out.env.most
  have HLT : Hid (p0 < w0.heap.size) := (Array.getElem?_eq_some_iff.1 HR0.out).1
  have HC0 : Hid (∀ W, Below w0.heap.size w0 W → W.cell? ⟨p0, 0, none⟩ = some (.string x.1)) := fun W hW => (hW.cell (p := ⟨p0, 0, none⟩) HLT.out).trans (by rw [cell_of_row _ _ _ _ _ _ HR0.out]; rfl)
  have HC1 : Hid (∀ W, Below w0.heap.size w0 W → W.cell? ⟨p0, 1, none⟩ = some (.string x.2)) := fun W hW => (hW.cell (p := ⟨p0, 1, none⟩) HLT.out).trans (by rw [cell_of_row _ _ _ _ _ _ HR0.out]; rfl)
  refine wp_region_noPanic ?_
  refine wp_region_held_drew (S := fun W => Below w0.heap.size w0 W) (by kernel_rfl) ?_ (fun hHeld => ?_)
  · exact (Below.refl _ _).drew
  refine tkV 0 (v := ?_) (hw := ?_) (h := ?_)
  rotate_left
  · intro W hSW
    go_simp
    try with_reducible rfl
  try simp only [Act.put, List.setIfInBounds_toArray, List.set_cons_zero, List.set_cons_succ]
  refine tkY 1 (hy := (yieldsIf_load_str (by rfl) 9 _ rfl p0 0 rfl x.1 (fun W hSW => HC0.out W hSW) Tryz.underlying9)) (h := ?_)
  try simp only [Act.put, List.setIfInBounds_toArray, List.set_cons_zero, List.set_cons_succ]
  refine tkY 2 (hy := (yieldsIf_eql (by rfl) .add 9 _ _ _ rfl (.string x.1) (.string ⟨#[32]⟩) rfl rfl (.string (txt T1)) (guard_addn _ _ _ _) (fun W => HA1.out W))) (h := ?_)
  try simp only [Act.put, List.setIfInBounds_toArray, List.set_cons_zero, List.set_cons_succ]
  refine tkV 3 (v := ?_) (hw := ?_) (h := ?_)
  rotate_left
  · intro W hSW
    go_simp
    try with_reducible rfl
  try simp only [Act.put, List.setIfInBounds_toArray, List.set_cons_zero, List.set_cons_succ]
  refine tkY 4 (hy := (yieldsIf_load_str (by rfl) 9 _ rfl p0 1 rfl x.2 (fun W hSW => HC1.out W hSW) Tryz.underlying9)) (h := ?_)
  try simp only [Act.put, List.setIfInBounds_toArray, List.set_cons_zero, List.set_cons_succ]
  refine wpAnyH_ready (rs := [5]) (by kernel_rfl) (by simp) ?_
  refine AllReadyH.cons (by simp only [List.getElem?_toArray, List.getElem?_cons_succ, List.getElem?_cons_zero]; rfl) (fun K hK => ?_) AllReadyH.nil
  go_simp
  refine (HRA.out _ (by exact hmw)).mono ?_
  rintro e v1 ⟨rfl, hb⟩
  have hb1 : Below w0.heap.size w0 v1 := (Below.refl _ _).drew.trans hb
  have HV1 := Lib.hid hb1
  clear hb hb1
  go_wp2_with fail
  refine hK.out _ _ (HV1.out) (fun hHeld2 => ?_)
  clear hK K hHeld
  have hHeld := hHeld2
  clear hHeld2
  try simp only [Act.put, List.setIfInBounds_toArray, List.set_cons_zero, List.set_cons_succ]
  refine tkY 6 (hy := (yieldsIf_eql (by rfl) .add 9 _ _ _ rfl (.string (txt T1)) (.string (txt T2)) rfl rfl (.string (txt T3)) (guard_addn _ _ _ _) (fun W => HA2.out W))) (h := ?_)
  try simp only [Act.put, List.setIfInBounds_toArray, List.set_cons_zero, List.set_cons_succ]
  refine tkV 7 (v := ?_) (hw := ?_) (h := ?_)
  rotate_left
  · intro W hSW
    go_simp
    try with_reducible rfl
  try simp only [Act.put, List.setIfInBounds_toArray, List.set_cons_zero, List.set_cons_succ]
  refine wpAnyH_done (by kernel_rfl) ?_ _
  refine NoPanic.normal ?_
  clear hHeld
  go_wp2_with fail
  go_ret
  exact ⟨by rw [HT.out] <;> rfl, HB0.out.trans (HV1.out.mono HB0.out.size)⟩
/-- Where a line's parts lie. -/
def PartsIn (w : World) (b : Nat) (v : Value) (ps : List ByteArray) : Prop := (ps = [] ∧ v = .slice none 0 0) ∨ ∃ g cap t, v = .slice (some ⟨g, 0, none⟩) ps.length cap ∧ t ≠ 5 ∧ g ≠ b ∧ w.heap[g]? = some (.cells (ps.map Value.string).toArray t (0, 0))
def catB (ps : List ByteArray) : List UInt8 := ps.flatMap (·.data.toList)
theorem catB_take (ps : List ByteArray) (k : Nat) (p : ByteArray) (h : ps[k]? = some p) : catB (ps.take (k + 1)) = catB (ps.take k) ++ p.data.toList := by
  unfold catB
  rw [List.take_add_one, h, List.flatMap_append]; simp
theorem catB_len (ps : List ByteArray) (h : ∀ p ∈ ps, p.size ≤ 1000000000) : (catB ps).length ≤ ps.length * 1000000000 := by
  induction ps with
  | nil => simp [catB]
  | cons p ps ih =>
    have h1 := h p (List.mem_cons_self ..)
    have h2 := ih fun q hq => h q (List.mem_cons_of_mem _ hq)
    unfold catB at h2 ⊢
    rw [List.flatMap_cons, List.length_append, List.length_cons, ← Lib.size_eq, Nat.succ_mul]; omega
theorem parts_cell {w : World} {b : Nat} {v : Value} {ps : List ByteArray} (h : PartsIn w b v ps) {k : Nat} {p : ByteArray} (hp : ps[k]? = some p) : ∃ g cap, v = .slice (some ⟨g, 0, none⟩) ps.length cap ∧ ∀ W, KeepsF b w W → W.cell? ⟨g, k, none⟩ = some (.string p) := by
  rcases h with ⟨rfl, -⟩ | ⟨g, cap, t, rfl, ht, hg, hh⟩
  · simp at hp
  · refine ⟨g, cap, rfl, fun W hW => ?_⟩
    rw [cell_of_row _ _ _ _ _ _ (hW g _ t (0, 0) hg (.inl ht) hh)]
    simp [hp]
theorem parts_shape {w : World} {b : Nat} {v : Value} {ps : List ByteArray} (h : PartsIn w b v ps) : ∃ a cap, v = .slice a ps.length cap := by
  rcases h with ⟨rfl, rfl⟩ | ⟨g, cap, t, rfl, -⟩
  · exact ⟨_, _, rfl⟩
  · exact ⟨_, _, rfl⟩
set_option maxRecDepth 100000 in
set_option maxHeartbeats 8000000 in
theorem line_any (B b : Nat) (l : List UInt8) (v : Value) (ps : List ByteArray) (w : World) (h : Lib.IsBuilder 95 5 B b (Lib.byteCells l) w) (hl : l.length ≤ 100000000000) (hp : PartsIn w b v ps) (hn : ps.length ≤ 10) (hs : ∀ p ∈ ps, p.size ≤ 1000000000) (hBw : B ≤ w.heap.size) :
    Calls Tryz.prog 47 #[.pointer (some ⟨b, 0, none⟩), v] w fun e w' => e = .returned (.tuple #[]) ∧ Lib.IsBuilder 95 5 B b (Lib.byteCells (l ++ catB ps ++ [10])) w' ∧ Below B w w' := by
  have HP := Lib.hid hp
  obtain ⟨a, cap, rfl⟩ := parts_shape hp
  have HSZ := Lib.hid hs
  have HLL := Lib.hid hl
  have HBW := Lib.hid hBw
  have H0 : Hid (Lib.IsBuilder 95 5 B b (Lib.byteCells (l ++ catB (ps.take 0))) w) := by show Lib.IsBuilder _ _ _ _ _ _; simpa [catB] using h
  obtain ⟨n, hN⟩ : ∃ n, ps.length = n := ⟨_, rfl⟩
  have HN := Lib.hid hN
  have HNB : Hid (n ≤ 10) := by rw [← hN]; exact hn
  rw [hN]
  clear h hl hp hn hs hBw hN
  go_enter Tryz.func47, Tryz.ntmps47
  go_wp2_with fail
  go_loopw [8] (fun i wr => ∃ k : Nat, k ≤ n ∧ i = .int .i64 (k : Int) ∧ Lib.IsBuilder 95 5 B b (Lib.byteCells (l ++ catB (ps.take k))) wr ∧ Below B w wr ∧ KeepsF b w wr) (fun i _ => n - (intOf i).toNat)
  case atStart => exact ⟨0, Nat.zero_le _, rfl, H0.out, Below.refl _ _, KeepsF.refl _ _⟩
  case round =>
    obtain ⟨k, hk, rfl, hu, hb, hkf⟩ := hrel
    have HU := Lib.hid hu
    have HB := Lib.hid hb
    have HK := Lib.hid hkf
    have HBR : Hid (B ≤ wr.heap.size) := by have := HB.out.size; have := HBW.out; show _ ≤ _; omega
    have WK := Lib.hid (next_int k (by have := HNB.out; omega))
    have HLN : Hid ((l ++ catB (ps.take k)).length ≤ 110000000000) := by
      have h1 := catB_len (ps.take k) fun p hp => HSZ.out p (List.mem_of_mem_take hp)
      have h2 := HLL.out
      have h3 := HNB.out
      rw [List.length_take, HN.out] at h1
      have h4 : min k n * 1000000000 ≤ 10 * 1000000000 := Nat.mul_le_mul_right _ (by omega)
      show _ ≤ _
      rw [List.length_append]; omega
    clear hu hb hkf H0
    by_cases hkn : k < n
    · have hki : (k : Int) < (n : Int) := by omega
      have HKN := Lib.hid hkn
      obtain ⟨p, hp⟩ : ∃ p, ps[k]? = some p := ⟨_, List.getElem?_eq_getElem (by rw [HN.out]; exact hkn)⟩
      obtain ⟨g, cap', e1, hc⟩ := parts_cell HP.out hp
      simp only [Value.slice.injEq] at e1
      obtain ⟨rfl, -, rfl⟩ := e1
      have hcell := hc wr HK.out
      have HPS := Lib.hid (HSZ.out p (List.mem_of_getElem? hp))
      have HTK := Lib.hid (catB_take ps k p hp)
      clear hp hc hkn hk
      go_wp2_with fail
      clear hcell hki
      refine (writeStr_k B b (l ++ catB (ps.take k)) p wr HU.out (by have := HLN.out; have := HPS.out; omega) HBR.out).mono ?_
      rintro e w2 ⟨rfl, ⟨hu, hb⟩, hk2⟩
      rw [List.append_assoc, ← HTK.out] at hu
      have HU2 := Lib.hid hu
      have HB2 := Lib.hid (HB.out.trans hb)
      have HK2 := Lib.hid (HK.out.trans hk2)
      clear hu hb hk2
      go_wp2_with fail
      exact ⟨⟨k + 1, HKN.out, by first | rw [WK.out _ rfl] | rfl, .inr HU2.out, HB2.out, HK2.out⟩, by have := HKN.out; (first | rw [WK.out _ rfl] | skip); simp [intOf]; omega⟩
    · have hki : ¬ (k : Int) < (n : Int) := by omega
      have HT : Hid (ps.take k = ps) := List.take_of_length_le (by rw [HN.out]; omega)
      rw [HT.out] at HU HLN
      clear hkn hk
      go_wp2_with fail
      refine (writeByte_k B b (Lib.byteCells (l ++ catB ps)) 10 wr HU.out (by have := HLN.out; rw [Lib.byteCells_length]; omega) HBR.out).mono ?_
      rintro e w2 ⟨rfl, ⟨hu, hb⟩, -⟩
      have HU2 : Hid (Lib.BuilderAt 95 5 B b (.pointer (some ⟨b, 0, none⟩)) (Lib.byteCells (l ++ catB ps ++ [10])) w2) := by
        have e : Lib.byteCells (l ++ catB ps) ++ [.int .u8 10] = Lib.byteCells (l ++ catB ps ++ [10]) := by unfold Lib.byteCells; simp
        rw [e] at hu; exact hu
      have HB2 := Lib.hid (HB.out.trans hb)
      clear hu hb
      go_wp2_with fail
      refine bodyPost_end (results_none rfl _ _ _) rfl ?_
      exact ⟨rfl, .inr HU2.out, HB2.out⟩
end Go.Proofs.YtkpiinjhcckhfaaGreatDoor
