/- A builder of strings: a byte more, a text more; what stands elsewhere stays. -/
import Derived.Test.YtkpiinjhcckhfaaGreatDoorChRight
import Derived.Lib.IndexMore
import Derived.Laws.MakeOwn
import Derived.Laws.OwnMore
/-! A builder of strings: a byte more, a text more; what stands elsewhere stays. -/
namespace Go.Proofs.YtkpiinjhcckhfaaGreatDoor
open Go.RowKit Go.Shelf Plain
set_option linter.unusedVariables false
theorem strCells_is (s : ByteArray) : Lib.strCells s = Lib.byteCells s.data.toList := by
  unfold Lib.strCells Lib.byteCells
  rfl
/-- What stands in blocks of other kinds, or is marked, stays. -/
def KeepsF (b : Nat) (w w' : World) : Prop := ∀ g cs t fr, g ≠ b → (t ≠ 5 ∨ fr ≠ (0, 0)) → w.heap[g]? = some (.cells cs t fr) → w'.heap[g]? = some (.cells cs t fr)
theorem KeepsF.trans {b : Nat} {w1 w2 w3 : World} (h1 : KeepsF b w1 w2) (h2 : KeepsF b w2 w3) : KeepsF b w1 w3 := fun g cs t fr hg ht h => h2 g cs t fr hg ht (h1 g cs t fr hg ht h)
theorem KeepsF.refl (b : Nat) (w : World) : KeepsF b w w := fun _ _ _ _ _ _ h => h
theorem heap_setCell_ne (w : World) (a : Addr) (v : Value) (g : Nat) (h : g ≠ a.block) : (w.setCell a v).heap[g]? = w.heap[g]? := Below.heap_setCell w a v g h
theorem check_k (B b : Nat) (bs : List Value) (w : World) (h : Lib.IsBuilder 95 5 B b bs w) :
    Calls Tryz.prog 77 #[.pointer (some ⟨b, 0, none⟩)] w fun e w' => e = .returned (.tuple #[]) ∧ (Lib.BuilderAt 95 5 B b (.pointer (some ⟨b, 0, none⟩)) bs w' ∧ Below B w w') ∧ ∀ g, g ≠ b → w'.heap[g]? = w.heap[g]? := by
  rcases h with h | h
  · refine (check_fresh b w h.cell0 h.shape h.frozen0).mono ?_
    rintro e w' ⟨rfl, rfl⟩
    exact ⟨rfl, ⟨h.used _, (Below.refl B w).setCell (p := ⟨b, 0, none⟩) h.1 _⟩, fun g hg => heap_setCell_ne w ⟨b, 0, none⟩ _ g hg⟩
  · refine (check_used b w h.cell0).mono ?_
    rintro e w' ⟨rfl, rfl⟩
    exact ⟨rfl, ⟨h, Below.refl B _⟩, fun g hg => rfl⟩
set_option maxHeartbeats 2000000 in
set_option maxRecDepth 100000 in
theorem writeStr_k (B b : Nat) (l : List UInt8) (s : ByteArray) (w : World) (h : Lib.IsBuilder 95 5 B b (Lib.byteCells l) w) (hlen : l.length + s.size ≤ 140737488355328) (hBw : B ≤ w.heap.size) :
    Calls Tryz.prog 51 #[.pointer (some ⟨b, 0, none⟩), .string s] w fun e w' => e = .returned (.tuple #[.int .i64 s.size, .nilIface]) ∧ (Lib.BuilderAt 95 5 B b (.pointer (some ⟨b, 0, none⟩)) (Lib.byteCells (l ++ s.data.toList)) w' ∧ Below B w w') ∧ KeepsF b w w' := by
  obtain ⟨i0, hi, hz0, hz1, hz2⟩ := info_parts u8info
  have hbl : (Lib.byteCells l).length = l.length := Lib.byteCells_length l
  have happ : Lib.byteCells l ++ Lib.strCells s = Lib.byteCells (l ++ s.data.toList) := by
    rw [strCells_is]; unfold Lib.byteCells; rw [List.map_append]
  generalize Lib.byteCells l = bs at *
  generalize Lib.byteCells (l ++ s.data.toList) = cs at *
  go_enter Tryz.func51, Tryz.ntmps51
  go_wp2_with (go_at_call 77; refine (check_k B b bs _ h).mono ?_)
  rintro e w1 ⟨rfl, ⟨h1, hb1⟩, hk1⟩
  obtain ⟨hB, v, hbk, hown, hne⟩ := h1
  have c0 : w1.cell? ⟨b, 0, none⟩ = some (.pointer (some ⟨b, 0, none⟩)) := by rw [Lib.cell_of_heap hbk]; rfl
  have c1 : w1.cell? ⟨b, 1, none⟩ = some v := by rw [Lib.cell_of_heap hbk]; rfl
  go_wp2_with (at_builtin; refine Lib.wpList_append_own_string _ rfl _ _ 71 9 rfl B 5 i0 Tryz.underlying71 Tryz.underlying9 hi hz0 hz1 hz2 _ _ _ rfl hown s rfl ?c3 ?c4 ?c5 ?_)
  case c3 => unfold maxLen; omega
  case c4 => omega
  case c5 => have := hb1.size; omega
  intro v' w2 hown' hgrow _
  have hlt : b < w1.heap.size := by
    rcases Nat.lt_or_ge b w1.heap.size with h' | h'
    · exact h'
    · simp [Array.getElem?_eq_none h'] at hbk
  have hb2 : w2.heap[b]? = some (.cells #[.pointer (some ⟨b, 0, none⟩), v] 95 (0, 0)) := by
    rw [hgrow.block b hlt (fun e => hne e.symm)]
    exact hbk
  have d0 : w2.cell? ⟨b, 0, none⟩ = some (.pointer (some ⟨b, 0, none⟩)) := by rw [Lib.cell_of_heap hb2]; rfl
  have d1 : w2.cell? ⟨b, 1, none⟩ = some v := by rw [Lib.cell_of_heap hb2]; rfl
  have f1 : w2.frozen? ⟨b, 1, none⟩ = false := Lib.frozen_of_heap hb2 1
  obtain ⟨ao, n', cap, rfl⟩ : ∃ ao n' cap, v' = .slice ao n' cap := by
    rcases hown'.2 with ⟨hv, _⟩ | ⟨g, cap, cur, hv, _⟩
    · exact ⟨_, _, _, hv⟩
    · exact ⟨_, _, _, hv⟩
  go_wp2
  go_ret2
  refine ⟨rfl, ⟨?_, ?_⟩, fun g cs t fr hg ht hh => ?_⟩
  · rw [← happ]
    exact Lib.BuilderAt.put (T := 95) (e := 5) hB hb2 (bs' := bs ++ Lib.strCells s) (by rw [List.length_append, Lib.strCells_length, happ, hbl]; exact hown') (by decide)
  · exact (hb1.grown hgrow (by have := hb1.size; omega) (fun k hk => (hown.lt k hk).1)).setCell (p := ⟨b, 1, none⟩) hB _
  · rw [heap_setCell_ne _ ⟨b, 1, none⟩ _ g hg]
    have hh1 := (hk1 g hg).trans hh
    rw [hgrow.block g (Array.getElem?_eq_some_iff.1 hh1).1 (fun e => ?_)]
    · exact hh1
    · rcases hown.2 with ⟨rfl, _⟩ | ⟨g', cap', cur, rfl, _, h4, _⟩
      · cases e
      · injection e with e
        subst e
        rw [h4] at hh1
        injection hh1 with hh1
        injection hh1 with _ e2 e3
        rcases ht with ht | ht
        · exact ht e2.symm
        · exact ht e3.symm
set_option maxHeartbeats 2000000 in
set_option maxRecDepth 100000 in
theorem writeByte_k (B b : Nat) (bs : List Value) (c : Int) (w : World) (h : Lib.IsBuilder 95 5 B b bs w) (hlen : bs.length + 1 ≤ 140737488355328) (hBw : B ≤ w.heap.size) :
    Calls Tryz.prog 75 #[.pointer (some ⟨b, 0, none⟩), .int .u8 c] w fun e w' => e = .returned .nilIface ∧ (Lib.BuilderAt 95 5 B b (.pointer (some ⟨b, 0, none⟩)) (bs ++ [.int .u8 c]) w' ∧ Below B w w') ∧ KeepsF b w w' := by
  obtain ⟨i0, hi, hz0, hz1, hz2⟩ := info_parts u8info
  go_enter Tryz.func75, Tryz.ntmps75
  go_wp2_with (go_at_call 77; refine (check_k B b bs _ h).mono ?_)
  rintro e w1 ⟨rfl, ⟨h1, hb1⟩, hk1⟩
  obtain ⟨hB, v, hbk, hown, hne⟩ := h1
  have c0 : w1.cell? ⟨b, 0, none⟩ = some (.pointer (some ⟨b, 0, none⟩)) := by rw [Lib.cell_of_heap hbk]; rfl
  have c1 : w1.cell? ⟨b, 1, none⟩ = some v := by rw [Lib.cell_of_heap hbk]; rfl
  go_wp2_with (at_builtin; refine wpList_append_own _ rfl _ _ 71 rfl B 5 i0 (.int .u8 0) 1 1 Tryz.underlying71 hi hz0 hz1 hz2 rfl (by decide) _ _ _ rfl (hown.alloc _) ⟨w1.heap.size, 0, none⟩ 1 1 [.int .u8 c] rfl rfl ?c1 ?c2 ?c3 ?c4 ?c5 ?_)
  case c1 =>
    intro j u hj
    match j, hj with
    | 0, hj => simp at hj; subst hj; simp [Addr.add]
  case c2 => intro u hu; simp at hu; subst hu; rfl
  case c3 => unfold maxLen; omega
  case c4 => omega
  case c5 => have := hb1.size; simp; omega
  intro v' w2 hown' hgrow _
  have hlt : b < w1.heap.size := by
    rcases Nat.lt_or_ge b w1.heap.size with h' | h'
    · exact h'
    · simp [Array.getElem?_eq_none h'] at hbk
  have hb2 : w2.heap[b]? = some (.cells #[.pointer (some ⟨b, 0, none⟩), v] 95 (0, 0)) := by
    rw [hgrow.block b (by simp; omega) (fun e => hne e.symm), Lib.alloc_old w1 _ b hlt]
    exact hbk
  have d0 : w2.cell? ⟨b, 0, none⟩ = some (.pointer (some ⟨b, 0, none⟩)) := by rw [Lib.cell_of_heap hb2]; rfl
  have d1 : w2.cell? ⟨b, 1, none⟩ = some v := by rw [Lib.cell_of_heap hb2]; rfl
  have f1 : w2.frozen? ⟨b, 1, none⟩ = false := Lib.frozen_of_heap hb2 1
  obtain ⟨g, cap, rfl⟩ : ∃ g cap, v' = .slice (some ⟨g, 0, none⟩) (bs.length + 1) cap := by
    rcases hown'.2 with ⟨_, h0⟩ | ⟨g, cap, cur, hv, _⟩
    · omega
    · exact ⟨g, cap, hv⟩
  go_wp2
  go_ret
  refine ⟨rfl, ⟨?_, ?_⟩, fun g0 cs t fr hg ht hh => ?_⟩
  · exact Lib.BuilderAt.put (T := 95) (e := 5) hB hb2 (bs' := bs ++ [.int .u8 c]) (by simpa using hown') (by decide)
  · exact ((hb1.alloc (by have := hb1.size; omega) _).grown hgrow (by have := hb1.size; simp; omega) (fun k hk => (hown.lt k hk).1)).setCell (p := ⟨b, 1, none⟩) hB _
  · rw [heap_setCell_ne _ ⟨b, 1, none⟩ _ g0 hg]
    have hh1 := (hk1 g0 hg).trans hh
    have hl0 := (Array.getElem?_eq_some_iff.1 hh1).1
    rw [hgrow.block g0 (by simp; omega) (fun e => ?_), Lib.alloc_old w1 _ g0 hl0]
    · exact hh1
    · rcases hown.2 with ⟨rfl, _⟩ | ⟨g', cap', cur, rfl, _, h4, _⟩
      · cases e
      · injection e with e
        subst e
        rw [h4] at hh1
        injection hh1 with hh1
        injection hh1 with _ e2 e3
        rcases ht with ht | ht
        · exact ht e2.symm
        · exact ht e3.symm
end Go.Proofs.YtkpiinjhcckhfaaGreatDoor
/-! change.printValue: the walk. -/
namespace Go.Proofs.YtkpiinjhcckhfaaGreatDoor
open Go.RowKit Go.Shelf Plain
set_option linter.unusedVariables false
set_option linter.unusedSimpArgs false
theorem esc_len (b : UInt8) : (esc b).length ≤ 2 := by
  unfold esc
  split <;> (try split) <;> (try split) <;> (try split) <;> simp
theorem valueL_len : ∀ l : List UInt8, (valueL l).length ≤ 2 * l.length
  | [] => by simp [valueL]
  | b :: l => by
    have := valueL_len l
    have h := esc_len b
    unfold valueL at this ⊢
    rw [List.flatMap_cons, List.length_append, List.length_cons]; omega
theorem valueL_snoc {l : List UInt8} {m : Nat} {q : UInt8} (h : l[m]? = some q) : valueL (l.take (m + 1)) = valueL (l.take m) ++ esc q := by
  unfold valueL
  rw [List.take_add_one, h, List.flatMap_append]
  simp
set_option maxRecDepth 100000 in
set_option maxHeartbeats 16000000 in
theorem printval_any (s : ByteArray) (w : World) (hs : s.size ≤ 100000) :
    Calls Tryz.prog 87 #[.string s] w fun e w' => e = .returned (.string (txt (valueL s.data.toList))) ∧ Below w.heap.size w w' := by
  have HSZ := Lib.hid (Lib.size_eq s)
  have HSB := Lib.hid hs
  obtain ⟨wb, hwb⟩ : ∃ W, w.alloc (.cells #[.pointer none, .slice none 0 0] 95) = W := ⟨_, rfl⟩
  have hszb : wb.heap.size = w.heap.size + 1 := by rw [← hwb]; simp
  have hbb : wb.heap[w.heap.size]? = some (.cells #[.pointer none, .slice none 0 0] 95 (0, 0)) := by rw [← hwb]; exact heap_alloc_new _ _
  have HBB : Hid (Below w.heap.size w wb) := by rw [← hwb]; exact (Below.refl _ _).alloc (Nat.le_refl _) _
  have hnew := Lib.bytesWorld_at_new wb 5 s
  have hbl : Below wb.heap.size wb (Lib.bytesWorld wb 5 s) := Lib.bytesWorld_below _ _ _
  obtain ⟨cp, hcp, hcv⟩ := conv_bytes wb s
  rw [hszb] at hnew hcv
  have HCELL : Hid (∀ m, m < s.size → (Lib.bytesCells wb 5 s)[m]? = some (.int .u8 ((s.data.toList[m]?.getD 0).toNat : Int))) := fun m hm => by
    have h1 := Lib.bytesWorld_cell wb 5 s m hm
    rw [hszb, cell_of_row _ _ _ _ _ _ hnew] at h1
    rw [h1, List.getD_eq_getElem?_getD]
  have HU0 : Hid (Lib.IsBuilder 95 5 w.heap.size w.heap.size (Lib.byteCells (valueL (s.data.toList.take 0))) (Lib.bytesWorld wb 5 s)) :=
    .inl ⟨Nat.le_refl _, _, (hbl.block w.heap.size (by omega)).trans hbb, World.ownsRow_nil _ _ _ _, by simp [Value.ownBlock]⟩
  have HR0 := Lib.hid hnew
  have HB0 : Hid (Below w.heap.size w (Lib.bytesWorld wb 5 s)) := HBB.out.trans (hbl.mono HBB.out.size)
  clear hbb hnew hbl hcp hs hszb
  subst hwb
  go_enter Tryz.func87, Tryz.ntmps87
  go_wp2_with fail
  clear hcv
  generalize Lib.bytesWorld (w.alloc (.cells #[.pointer none, .slice none 0 0] 95)) 5 s = w1 at *
  generalize Lib.bytesCells (w.alloc (.cells #[.pointer none, .slice none 0 0] 95)) 5 s = bc at *
  go_loopw [9] (fun i wr => ∃ m : Nat, m ≤ s.size ∧ i = .int .i64 (m : Int) ∧ Lib.IsBuilder 95 5 w.heap.size w.heap.size (Lib.byteCells (valueL (s.data.toList.take m))) wr ∧ Below w.heap.size w wr ∧ wr.heap[w.heap.size + 1]? = some (.cells bc 5 (bc.size, bc.size + 1))) (fun i _ => s.size - (intOf i).toNat)
  case atStart => exact ⟨0, Nat.zero_le _, rfl, HU0.out, HB0.out, HR0.out⟩
  case round =>
    obtain ⟨m, hm, rfl, hu, hb, hr⟩ := hrel
    have HU := Lib.hid hu
    have HBW := Lib.hid hb
    have HRW := Lib.hid hr
    have WM := Lib.hid (next_int m (by have := HSB.out; omega))
    have HN : Hid (w.heap.size ≤ wr.heap.size) := HBW.out.size
    clear hu hb hr HU0 HB0 HR0
    by_cases hms : m < s.size
    · have hmi : (m : Int) < (s.size : Int) := by omega
      have HMS := Lib.hid hms
      have hcell : wr.cell? ⟨w.heap.size + 1, m, none⟩ = some (.int .u8 ((s.data.toList[m]?.getD 0).toNat : Int)) := by
        rw [cell_of_row _ _ _ _ _ _ HRW.out]; exact HCELL.out m hms
      have HGM : Hid (s.data.toList[m]? = some (s.data.toList[m]?.getD 0)) := by
        show _ = _
        rw [List.getElem?_eq_getElem (by rw [← HSZ.out]; exact hms)]; rfl
      have HVL : Hid ((valueL (s.data.toList.take m)).length ≤ 200000) := by
        show _ ≤ _
        have h1 := valueL_len (s.data.toList.take m)
        rw [List.length_take] at h1
        have := HSB.out
        omega
      obtain ⟨q, hq⟩ : ∃ q, s.data.toList[m]?.getD 0 = q := ⟨_, rfl⟩
      rw [hq] at hcell HGM
      have HTV := Lib.hid (valueL_snoc HGM.out)
      clear hq hms hm
      by_cases hq92 : q = 92
      · subst hq92
        have hcell : wr.cell? ⟨w.heap.size + 1, m, none⟩ = some (.int .u8 92) := hcell
        have HVV : Hid (valueL (s.data.toList.take m) ++ (⟨#[92, 92]⟩ : ByteArray).data.toList = valueL (s.data.toList.take (m + 1))) := by show _ = _; rw [HTV.out]; rfl
        go_wp2_with fail
        clear hcell
        refine (writeStr_k w.heap.size w.heap.size (valueL (s.data.toList.take m)) ⟨#[92, 92]⟩ wr HU.out (by have := HVL.out; show _ + 2 ≤ _; omega) HN.out).mono ?_
        rintro e w2 ⟨rfl, ⟨hu, hb⟩, hk⟩
        rw [HVV.out] at hu
        have HU2 := Lib.hid hu
        have HB2 := Lib.hid (HBW.out.trans hb)
        have HR2 := Lib.hid (hk _ _ _ _ (by omega) (.inr (by simp)) HRW.out)
        clear hu hb hk
        go_wp2_with fail
        exact ⟨⟨m + 1, HMS.out, by first | rw [WM.out _ rfl] | rfl, .inr HU2.out, HB2.out, HR2.out⟩, by have := HMS.out; (first | rw [WM.out _ rfl] | skip); simp [intOf]; omega⟩
      by_cases hq10 : q = 10
      · subst hq10
        have hcell : wr.cell? ⟨w.heap.size + 1, m, none⟩ = some (.int .u8 10) := hcell
        have HVV : Hid (valueL (s.data.toList.take m) ++ (⟨#[92, 110]⟩ : ByteArray).data.toList = valueL (s.data.toList.take (m + 1))) := by show _ = _; rw [HTV.out]; rfl
        go_wp2_with fail
        clear hcell
        refine (writeStr_k w.heap.size w.heap.size (valueL (s.data.toList.take m)) ⟨#[92, 110]⟩ wr HU.out (by have := HVL.out; show _ + 2 ≤ _; omega) HN.out).mono ?_
        rintro e w2 ⟨rfl, ⟨hu, hb⟩, hk⟩
        rw [HVV.out] at hu
        have HU2 := Lib.hid hu
        have HB2 := Lib.hid (HBW.out.trans hb)
        have HR2 := Lib.hid (hk _ _ _ _ (by omega) (.inr (by simp)) HRW.out)
        clear hu hb hk
        go_wp2_with fail
        exact ⟨⟨m + 1, HMS.out, by first | rw [WM.out _ rfl] | rfl, .inr HU2.out, HB2.out, HR2.out⟩, by have := HMS.out; (first | rw [WM.out _ rfl] | skip); simp [intOf]; omega⟩
      by_cases hq13 : q = 13
      · subst hq13
        have hcell : wr.cell? ⟨w.heap.size + 1, m, none⟩ = some (.int .u8 13) := hcell
        have HVV : Hid (valueL (s.data.toList.take m) ++ (⟨#[92, 114]⟩ : ByteArray).data.toList = valueL (s.data.toList.take (m + 1))) := by show _ = _; rw [HTV.out]; rfl
        go_wp2_with fail
        clear hcell
        refine (writeStr_k w.heap.size w.heap.size (valueL (s.data.toList.take m)) ⟨#[92, 114]⟩ wr HU.out (by have := HVL.out; show _ + 2 ≤ _; omega) HN.out).mono ?_
        rintro e w2 ⟨rfl, ⟨hu, hb⟩, hk⟩
        rw [HVV.out] at hu
        have HU2 := Lib.hid hu
        have HB2 := Lib.hid (HBW.out.trans hb)
        have HR2 := Lib.hid (hk _ _ _ _ (by omega) (.inr (by simp)) HRW.out)
        clear hu hb hk
        go_wp2_with fail
        exact ⟨⟨m + 1, HMS.out, by first | rw [WM.out _ rfl] | rfl, .inr HU2.out, HB2.out, HR2.out⟩, by have := HMS.out; (first | rw [WM.out _ rfl] | skip); simp [intOf]; omega⟩
      by_cases hq0 : q = 0
      · subst hq0
        have hcell : wr.cell? ⟨w.heap.size + 1, m, none⟩ = some (.int .u8 0) := hcell
        have HVV : Hid (valueL (s.data.toList.take m) ++ (⟨#[92, 48]⟩ : ByteArray).data.toList = valueL (s.data.toList.take (m + 1))) := by show _ = _; rw [HTV.out]; rfl
        go_wp2_with fail
        clear hcell
        refine (writeStr_k w.heap.size w.heap.size (valueL (s.data.toList.take m)) ⟨#[92, 48]⟩ wr HU.out (by have := HVL.out; show _ + 2 ≤ _; omega) HN.out).mono ?_
        rintro e w2 ⟨rfl, ⟨hu, hb⟩, hk⟩
        rw [HVV.out] at hu
        have HU2 := Lib.hid hu
        have HB2 := Lib.hid (HBW.out.trans hb)
        have HR2 := Lib.hid (hk _ _ _ _ (by omega) (.inr (by simp)) HRW.out)
        clear hu hb hk
        go_wp2_with fail
        exact ⟨⟨m + 1, HMS.out, by first | rw [WM.out _ rfl] | rfl, .inr HU2.out, HB2.out, HR2.out⟩, by have := HMS.out; (first | rw [WM.out _ rfl] | skip); simp [intOf]; omega⟩
      have HVV : Hid (Lib.byteCells (valueL (s.data.toList.take m)) ++ [.int .u8 (q.toNat : Int)] = Lib.byteCells (valueL (s.data.toList.take (m + 1)))) := by
        show _ = _
        rw [HTV.out, show esc q = [q] by unfold esc; rw [if_neg hq92, if_neg hq10, if_neg hq13, if_neg hq0]]
        unfold Lib.byteCells
        rw [List.map_append]; rfl
      have hi92 : ¬ ((q.toNat : Nat) : Int) = 92 := fun h => hq92 (UInt8.toNat_inj.1 (by show q.toNat = 92; omega))
      have hb92 : (((q.toNat : Nat) : Int) == 92) = false := beq_eq_false_iff_ne.2 hi92
      have hi10 : ¬ ((q.toNat : Nat) : Int) = 10 := fun h => hq10 (UInt8.toNat_inj.1 (by show q.toNat = 10; omega))
      have hb10 : (((q.toNat : Nat) : Int) == 10) = false := beq_eq_false_iff_ne.2 hi10
      have hi13 : ¬ ((q.toNat : Nat) : Int) = 13 := fun h => hq13 (UInt8.toNat_inj.1 (by show q.toNat = 13; omega))
      have hb13 : (((q.toNat : Nat) : Int) == 13) = false := beq_eq_false_iff_ne.2 hi13
      have hi0 : ¬ ((q.toNat : Nat) : Int) = 0 := fun h => hq0 (UInt8.toNat_inj.1 (by show q.toNat = 0; omega))
      have hb0 : (((q.toNat : Nat) : Int) == 0) = false := beq_eq_false_iff_ne.2 hi0
      clear hq92 hq10 hq13 hq0
      generalize ((q.toNat : Nat) : Int) = qi at *
      go_wp2_with fail
      clear hcell
      refine (writeByte_k w.heap.size w.heap.size (Lib.byteCells (valueL (s.data.toList.take m))) qi wr HU.out (by have := HVL.out; rw [Lib.byteCells_length]; omega) HN.out).mono ?_
      rintro e w2 ⟨rfl, ⟨hu, hb⟩, hk⟩
      rw [HVV.out] at hu
      have HU2 := Lib.hid hu
      have HB2 := Lib.hid (HBW.out.trans hb)
      have HR2 := Lib.hid (hk _ _ _ _ (by omega) (.inr (by simp)) HRW.out)
      clear hu hb hk
      go_wp2_with fail
      exact ⟨⟨m + 1, HMS.out, by first | rw [WM.out _ rfl] | rfl, .inr HU2.out, HB2.out, HR2.out⟩, by have := HMS.out; (first | rw [WM.out _ rfl] | skip); simp [intOf]; omega⟩
    · have hmi : ¬ (m : Int) < (s.size : Int) := by omega
      have HUE : Hid (Lib.IsBuilder 95 5 w.heap.size w.heap.size (Lib.byteCells (valueL s.data.toList)) wr) := by
        have := HU.out
        rwa [List.take_of_length_le (by rw [← HSZ.out]; omega)] at this
      clear hms hm
      go_wp2_with fail
      refine (Tryz.Builder_String_any w.heap.size w.heap.size (valueL s.data.toList) wr HUE.out HN.out).mono ?_
      rintro e w2 ⟨rfl, hb⟩
      have HB2 := Lib.hid (HBW.out.trans hb)
      clear hb
      go_wp2_with fail
      go_ret
      exact ⟨rfl, HB2.out⟩
end Go.Proofs.YtkpiinjhcckhfaaGreatDoor
/-! change.printExtras: the walk. -/
namespace Go.Proofs.YtkpiinjhcckhfaaGreatDoor
open Go.RowKit Go.Shelf Plain
set_option linter.unusedVariables false
set_option linter.unusedSimpArgs false
theorem guard_add (x y : Operand) (s t : ByteArray) (W : World) : (eqGuard .add 9 x y (.string s) (.string t)).run Tryz.prog W = .ok () W := by simp [eqGuard]
theorem add_op (a b : ByteArray) (h : a.size + b.size ≤ 1000000000) (W : World) : (binOp .add 9 (.string a) (.string b)).run Tryz.prog W = .ok (.string (a ++ b)) W := by
  have := add_str a b h W
  simpa [binOp, run_underlying Tryz.underlying9] using this
theorem make_ss (k : Nat) (hk : k ≤ 1000000) (w : World) : (Instr.makeSlice 38 (.int .i64 (k : Int)) (.int .i64 (k : Int))).run Tryz.prog w = .ok (.slice (some ⟨w.heap.size, 0, none⟩) k k) (w.alloc (.cells (Lib.cellsOf [] k) 9)) := by
  obtain ⟨-, i, z, hi, hz0, hz1, hz2, hz3⟩ := elem_str
  have hzz : z = .string ByteArray.empty := by
    have h : (Tryz.prog.info? 9).map (fun i => i.zero) = some (some (.string ByteArray.empty)) := by kernel_rfl
    rw [hi] at h
    simp only [Option.map_some, Option.some.injEq] at h
    rw [hz0] at h
    exact Option.some.inj h
  subst hzz
  rw [run_make (P := Tryz.prog) w 38 9 i (.string ByteArray.empty) Tryz.underlying38 hi hz0 .i64 .i64 k k (by omega) (Int.le_refl _) (by rw [hz2]; omega) (by omega), hz1]
  have e : madeCells (Value.string ByteArray.empty).cells ((k : Int).toNat * 1) = Lib.cellsOf [] k := by
    rw [Lib.cellsOf_nil, Int.toNat_natCast, Nat.mul_one]
    rfl
  rw [e]
  rfl
theorem cell_setCell_ne (w : World) (g k b o : Nat) (v : Value) (h : b ≠ g) : (w.setCell ⟨g, k, none⟩ v).cell? ⟨b, o, none⟩ = w.cell? ⟨b, o, none⟩ := by
  unfold World.cell?
  rw [heap_setCell_ne w ⟨g, k, none⟩ v b h]
theorem join_len (c : UInt8) (B : Nat) : ∀ ws : List (List UInt8), (∀ v ∈ ws, v.length ≤ B) → (Lib.join ws [c]).length ≤ ws.length * (B + 1)
  | [], _ => by rw [Lib.join_nil]; simp
  | [w], h => by
    rw [Lib.join_one]
    have := h w (by simp)
    simp; omega
  | w :: v :: ws, h => by
    have ih := join_len c B (v :: ws) (fun x hx => h x (List.mem_cons_of_mem _ hx))
    have := h w (by simp)
    rw [join_cons2, List.length_append, List.length_cons, List.length_cons, Nat.succ_mul]
    omega
def wordB (x : ByteArray × ByteArray) : ByteArray := txt (extL x)
def wordsB (xs : List (ByteArray × ByteArray)) : List ByteArray := xs.map wordB
theorem words_lists (xs : List (ByteArray × ByteArray)) : (wordsB xs).map (·.data.toList) = xs.map extL := by
  unfold wordsB wordB
  rw [List.map_map]
  apply List.map_congr_left
  intro x hx
  exact txt_list _
theorem extL_len (x : ByteArray × ByteArray) (h : x.1.size ≤ 100000 ∧ x.2.size ≤ 100000) : (extL x).length ≤ 300001 := by
  unfold extL
  have := valueL_len x.2.data.toList
  rw [List.length_append, List.length_cons]
  rw [Lib.size_eq, Lib.size_eq] at h
  omega
theorem exsL_len (xs : List (ByteArray × ByteArray)) (h : ∀ x ∈ xs, x.1.size ≤ 100000 ∧ x.2.size ≤ 100000) : (exsL xs).length ≤ xs.length * 300002 := by
  unfold exsL
  have := join_len 0 300001 (xs.map extL) (fun v hv => by
    obtain ⟨x, hx, rfl⟩ := List.mem_map.1 hv
    exact extL_len x (h x hx))
  rwa [List.length_map] at this
set_option maxRecDepth 100000 in
set_option maxHeartbeats 16000000 in
theorem printexts_any (a : Option Addr) (cc : Nat) (xs : List (ByteArray × ByteArray)) (w : World) (h : RowAt 2 extE w a xs) (hn : xs.length ≤ 100000) (hs : ∀ x ∈ xs, x.1.size ≤ 100000 ∧ x.2.size ≤ 100000) :
    Calls Tryz.prog 61 #[.slice a xs.length cc] w fun e w' => e = .returned (.string (txt (exsL xs))) ∧ Below w.heap.size w w' := by
  have HSM := Lib.hid hs
  have HA := Lib.hid h
  obtain ⟨n, hN⟩ : ∃ n, xs.length = n := ⟨_, rfl⟩
  have HN := Lib.hid hN
  have HNB : Hid (n ≤ 100000) := by rw [← hN]; exact hn
  rw [hN]
  have hmk := fun W => make_ss n (by omega) W
  have HB0 : Hid (Below w.heap.size w (w.alloc (.cells (Lib.cellsOf [] n) 9))) := (Below.refl _ _).alloc (Nat.le_refl _) _
  have HG0 : Hid ((w.alloc (.cells (Lib.cellsOf [] n) 9)).heap[w.heap.size]? = some (.cells (Lib.cellsOf (wordsB (xs.take 0)) n) 9 (0, 0))) := heap_alloc_new _ _
  clear h hn hs hN
  go_enter Tryz.func61, Tryz.ntmps61
  go_wp2_with fail
  clear hmk
  generalize w.alloc (.cells (Lib.cellsOf [] n) 9) = w0 at *
  obtain ⟨g, hg⟩ : ∃ g, w.heap.size = g := ⟨_, rfl⟩
  have HGB : Hid (w.heap.size ≤ g) := by show _ ≤ _; omega
  rw [hg] at HG0
  simp only [hg]
  have HGE := Lib.hid hg
  clear hg
  go_loopw [11] (fun i wr => ∃ k : Nat, k ≤ n ∧ i = .int .i64 (k : Int) ∧ wr.heap[g]? = some (.cells (Lib.cellsOf (wordsB (xs.take k)) n) 9 (0, 0)) ∧ Below w.heap.size w wr) (fun i _ => n - (intOf i).toNat)
  case atStart => exact ⟨0, Nat.zero_le _, rfl, HG0.out, HB0.out⟩
  case round =>
    obtain ⟨k, hk, rfl, hgr, hb⟩ := hrel
    have HGR := Lib.hid hgr
    have HBW := Lib.hid hb
    have WK := Lib.hid (next_int k (by have := HNB.out; omega))
    clear hgr hb HG0 HB0
    by_cases hkn : k < n
    · have hki : (k : Int) < (n : Int) := by omega
      have HKN := Lib.hid hkn
      rcases HA.out with h0 | ⟨b, off, rfl, hbl, hc⟩
      · rw [HN.out] at h0; omega
      obtain ⟨x, hp⟩ : ∃ x, xs[k]? = some x := ⟨_, List.getElem?_eq_getElem (by rw [HN.out]; exact hkn)⟩
      have HP := Lib.hid hp
      have HXS := Lib.hid (HSM.out x (List.mem_of_getElem? hp))
      have HRX := Lib.hid (range_below (hc k x hp) HBW.out hbl)
      have hze := zero_ext
      have HZX : Hid ((wr.alloc (.cells zextA 79)).heap[wr.heap.size]? = some (.cells zextA 79 (0, 0))) := heap_alloc_new _ _
      have HXA : Hid (((wr.alloc (.cells zextA 79)).setRow wr.heap.size (extE x).toArray).heap[wr.heap.size]? = some (.cells (extE x).toArray 79 (0, 0))) := setRow_heap _ _ _ _ _ _ HZX.out
      have HBS : Hid (Below wr.heap.size wr ((wr.alloc (.cells zextA 79)).setRow wr.heap.size (extE x).toArray)) := below_setRow ((Below.refl _ _).alloc (Nat.le_refl _) _) (Nat.le_refl _) _
      have HLR := Lib.hid (Array.getElem?_eq_some_iff.1 HGR.out).1
      have HG3 := Lib.hid ((HBS.out.block g HLR.out).trans HGR.out)
      have HLEN : Hid ((wordsB (xs.take k)).length = k) := by show _ = _; unfold wordsB; rw [List.length_map, List.length_take, HN.out]; omega
      have HNX : Hid ((Lib.cellsOf (wordsB (xs.take k)) n)[k]? = some (.string ByteArray.empty)) := by
        have := Lib.cellsOf_next (done := wordsB (xs.take k)) (N := n) (by rw [HLEN.out]; exact hkn)
        rwa [HLEN.out] at this
      have HA1 : Hid (∀ W, (binOp .add 9 (.string x.1) (.string ⟨#[58]⟩)).run Tryz.prog W = .ok (.string (x.1 ++ ⟨#[58]⟩)) W) := fun W => add_op _ _ (by have := HXS.out.1; show _ + 1 ≤ _; omega) W
      obtain ⟨KC, hKC⟩ : ∃ s, x.1 ++ (⟨#[58]⟩ : ByteArray) = s := ⟨_, rfl⟩
      rw [hKC] at HA1
      have hKV : KC ++ txt (valueL x.2.data.toList) = wordB x := by
        rw [← hKC]
        apply bytes_ext
        unfold wordB
        rw [txt_list, ByteArray.data_append, Array.toList_append, ByteArray.data_append, Array.toList_append, txt_list]
        unfold extL
        rw [List.append_assoc]; rfl
      have HA2 : Hid (∀ W, (binOp .add 9 (.string KC) (.string (txt (valueL x.2.data.toList)))).run Tryz.prog W = .ok (.string (wordB x)) W) := fun W => by
        rw [← hKV]
        exact add_op _ _ (by
          have h1 := HXS.out
          have h2 := valueL_len x.2.data.toList
          have h3 := Lib.size_eq x.2
          rw [← hKC, ByteArray.size_append, txt_size]
          show x.1.size + 1 + _ ≤ _
          omega) W
      obtain ⟨KV, hKVV⟩ : ∃ s, wordB x = s := ⟨_, rfl⟩
      rw [hKVV] at HA2
      have HST : Hid ((Lib.cellsOf (wordsB (xs.take k)) n).setIfInBounds k (.string KV) = Lib.cellsOf (wordsB (xs.take (k + 1))) n) := by
        have h1 := Lib.cellsOf_set (done := wordsB (xs.take k)) (N := n) (by rw [HLEN.out]; exact hkn) KV
        rw [HLEN.out] at h1
        show _ = _
        rw [h1, ← hKVV]
        unfold wordsB
        rw [List.take_add_one, hp, List.map_append]
        rfl
      have HNE : Hid (wr.heap.size ≠ g) := by have := HLR.out; show _ ≠ _; omega
      clear hp hbl hc hkn hk hKC hKV hKVV
      unfold zextA at hze
      go_wp2_with (first
        | refine wpList_load_mid rfl 79 _ rfl b (off + k * 2) rfl (extE x) _ HRX.out Tryz.underlying79 rfl (info_ext x) ?_
        | refine wpList_store_row rfl 79 _ _ rfl wr.heap.size (extE x).toArray rfl rfl 79 zextA HZX.out (info_extA x) rfl (extA_one x) ?_)
      have hw3 : (wr.alloc (.cells #[.string ⟨#[]⟩, .string ⟨#[]⟩] 79)).setRow wr.heap.size (extE x).toArray = (wr.alloc (.cells zextA 79)).setRow wr.heap.size (extE x).toArray := rfl
      try rw [hw3]
      clear hw3 HZX hze HRX
      have HBW3 := Lib.hid (HBW.out.trans (HBS.out.mono HBW.out.size))
      obtain ⟨bx, hbx⟩ : ∃ b, wr.heap.size = b := ⟨_, rfl⟩
      rw [hbx] at HXA HNE ⊢
      simp only [hbx] at HBW3 HG3
      clear HBS
      generalize (wr.alloc (.cells zextA 79)).setRow bx (extE x).toArray = w3 at *
      have HLX : Hid (bx < w3.heap.size) := (Array.getElem?_eq_some_iff.1 HXA.out).1
      have HLG : Hid (g < w3.heap.size) := (Array.getElem?_eq_some_iff.1 HG3.out).1
      have HX0 : Hid (w3.cell? ⟨bx, 0, none⟩ = some (.string x.1)) := by show _ = _; rw [cell_of_row _ _ _ _ _ _ HXA.out]; rfl
      have HX1 : Hid (w3.cell? ⟨bx, 1, none⟩ = some (.string x.2)) := by show _ = _; rw [cell_of_row _ _ _ _ _ _ HXA.out]; rfl
      clear hbx
      refine wp_region_noPanic ?_
      refine wp_region_held_drew (S := fun W => W.cell? ⟨bx, 0, none⟩ = some (.string x.1) ∧ W.cell? ⟨bx, 1, none⟩ = some (.string x.2)) (by kernel_rfl) ?_ (fun hHeld => ?_)
      · exact ⟨HX0.out, HX1.out⟩
      refine tkV 0 (v := ?_) (hw := ?_) (h := ?_)
      rotate_left
      · intro W hSW
        go_simp
        try with_reducible rfl
      try simp only [Act.put, List.setIfInBounds_toArray, List.set_cons_zero, List.set_cons_succ]
      refine tkV 1 (v := ?_) (hw := ?_) (h := ?_)
      rotate_left
      · intro W hSW
        go_simp
        try with_reducible rfl
      try simp only [Act.put, List.setIfInBounds_toArray, List.set_cons_zero, List.set_cons_succ]
      refine tkV 2 (v := ?_) (hw := ?_) (h := ?_)
      rotate_left
      · intro W hSW
        go_simp
        try with_reducible rfl
      try simp only [Act.put, List.setIfInBounds_toArray, List.set_cons_zero, List.set_cons_succ]
      refine tkY 3 (hy := (yieldsIf_load_str (by rfl) 9 _ rfl bx 0 rfl x.1 (fun W hSW => hSW.1) Tryz.underlying9)) (h := ?_)
      try simp only [Act.put, List.setIfInBounds_toArray, List.set_cons_zero, List.set_cons_succ]
      refine tkY 4 (hy := (yieldsIf_eql (by rfl) .add 9 _ _ _ rfl (.string x.1) (.string ⟨#[58]⟩) rfl rfl (.string KC) (guard_add _ _ _ _) (fun W => HA1.out W))) (h := ?_)
      try simp only [Act.put, List.setIfInBounds_toArray, List.set_cons_zero, List.set_cons_succ]
      refine tkV 5 (v := ?_) (hw := ?_) (h := ?_)
      rotate_left
      · intro W hSW
        go_simp
        try with_reducible rfl
      try simp only [Act.put, List.setIfInBounds_toArray, List.set_cons_zero, List.set_cons_succ]
      refine tkY 6 (hy := (yieldsIf_load_str (by rfl) 9 _ rfl bx 1 rfl x.2 (fun W hSW => hSW.2) Tryz.underlying9)) (h := ?_)
      try simp only [Act.put, List.setIfInBounds_toArray, List.set_cons_zero, List.set_cons_succ]
      refine wpAnyH_ready (rs := [7]) (by kernel_rfl) (by simp) ?_
      refine AllReadyH.cons (by simp only [List.getElem?_toArray, List.getElem?_cons_succ, List.getElem?_cons_zero]; rfl) (fun K hK => ?_) AllReadyH.nil
      go_simp
      refine (printval_any x.2 _ HXS.out.2).mono ?_
      rintro e v1 ⟨rfl, hb⟩
      have hb1 : Below w3.heap.size w3 v1 := (Below.refl _ _).drew.trans hb
      have HB1 := Lib.hid hb1
      have HV0 := Lib.hid ((hb1.cell (p := ⟨bx, 0, none⟩) HLX.out).trans HX0.out)
      have HV1 := Lib.hid ((hb1.cell (p := ⟨bx, 1, none⟩) HLX.out).trans HX1.out)
      have HG1 := Lib.hid ((hb1.block g HLG.out).trans HG3.out)
      clear hb hb1
      go_wp2_with fail
      refine hK.out _ _ (⟨HV0.out, HV1.out⟩) (fun hHeld2 => ?_)
      clear hK K hHeld
      have hHeld := hHeld2
      clear hHeld2
      try simp only [Act.put, List.setIfInBounds_toArray, List.set_cons_zero, List.set_cons_succ]
      refine tkY 8 (hy := (yieldsIf_eql (by rfl) .add 9 _ _ _ rfl (.string KC) (.string (txt (valueL x.2.data.toList))) rfl rfl (.string KV) (guard_add _ _ _ _) (fun W => HA2.out W))) (h := ?_)
      try simp only [Act.put, List.setIfInBounds_toArray, List.set_cons_zero, List.set_cons_succ]
      refine tkV 9 (v := ?_) (hw := ?_) (h := ?_)
      rotate_left
      · intro W hSW
        go_simp
        try with_reducible rfl
      try simp only [Act.put, List.setIfInBounds_toArray, List.set_cons_zero, List.set_cons_succ]
      have hco := cell_of_row _ _ k _ _ _ HG1.out
      rw [HNX.out] at hco
      have hfo := frozen_of_row v1 g k _ 9 HG1.out
      have HGS : Hid ((v1.setCell ⟨g, k, none⟩ (.string KV)).heap[g]? = some (.cells (Lib.cellsOf (wordsB (xs.take (k + 1))) n) 9 (0, 0))) := by show _ = _; rw [heap_setCell_same v1 g k _ _ _ HG1.out, HST.out]
      have HBS : Hid (Below w.heap.size w (v1.setCell ⟨g, k, none⟩ (.string KV))) := (HBW3.out.trans (HB1.out.mono HBW3.out.size)).setCell HGB.out _
      have HS0 : Hid ((v1.setCell ⟨g, k, none⟩ (.string KV)).cell? ⟨bx, 0, none⟩ = some (.string x.1)) := (cell_setCell_ne v1 g k bx 0 _ HNE.out).trans HV0.out
      have HS1 : Hid ((v1.setCell ⟨g, k, none⟩ (.string KV)).cell? ⟨bx, 1, none⟩ = some (.string x.2)) := (cell_setCell_ne v1 g k bx 1 _ HNE.out).trans HV1.out
      refine wpAnyH_ready (rs := [10]) (by kernel_rfl) (by simp) ?_
      refine AllReadyH.cons (by simp only [List.getElem?_toArray, List.getElem?_cons_succ, List.getElem?_cons_zero]; rfl) (fun K hK => ?_) AllReadyH.nil
      go_simp
      refine hK.out _ _ (⟨HS0.out, HS1.out⟩) (fun hHeld2 => ?_)
      clear hK K hHeld
      have hHeld := hHeld2
      clear hHeld2
      try simp only [Act.put, List.setIfInBounds_toArray, List.set_cons_zero, List.set_cons_succ]
      refine wpAnyH_done (by kernel_rfl) ?_ _
      refine NoPanic.normal ?_
      clear hHeld hco hfo
      go_wp2_with fail
      exact ⟨⟨k + 1, HKN.out, by first | rw [WK.out _ rfl] | rfl, HGS.out, HBS.out⟩, by have := HKN.out; (first | rw [WK.out _ rfl] | skip); simp [intOf]; omega⟩
    · have hki : ¬ (k : Int) < (n : Int) := by omega
      have hkn' : k = n := by omega
      have HGN : Hid (wr.heap[g]? = some (.cells (wordsB xs |>.map Value.string).toArray 9 (0, 0))) := by
        have := HGR.out
        rw [hkn', List.take_of_length_le (by rw [HN.out]; omega)] at this
        have e : Lib.cellsOf (wordsB xs) n = ((wordsB xs).map Value.string).toArray := by
          have h1 : (wordsB xs).length = n := by unfold wordsB; rw [List.length_map, HN.out]
          rw [← h1, Lib.cellsOf_full]
        rw [e] at this
        exact this
      have HJ := Tryz.strings_Join g 0 n (wordsB xs) ⟨#[0]⟩ wr (fun j x hx => by
        rw [cell_of_row _ _ _ _ _ _ HGN.out, Nat.zero_add, List.getElem?_toArray, List.getElem?_map, hx]; rfl) (Array.getElem?_eq_some_iff.1 HGN.out).1 (by unfold wordsB; rw [List.length_map, HN.out]; have := HNB.out; omega) (by unfold wordsB; rw [List.length_map, HN.out]; exact Nat.le_refl _) (by
          rw [words_lists]
          have h1 := exsL_len xs HSM.out
          have h2 := HNB.out
          rw [HN.out] at h1
          show (exsL xs).length ≤ _
          omega)
      rw [words_lists, show (wordsB xs).length = n by unfold wordsB; rw [List.length_map, HN.out]] at HJ
      have HJ := Lib.hid HJ
      clear hkn hk hkn'
      go_wp2_with fail
      refine HJ.out.mono ?_
      rintro e w5 ⟨rfl, hb⟩
      have HB5 := Lib.hid (HBW.out.trans (hb.mono HBW.out.size))
      clear hb
      go_wp2_with fail
      go_ret
      exact ⟨rfl, HB5.out⟩
end Go.Proofs.YtkpiinjhcckhfaaGreatDoor
