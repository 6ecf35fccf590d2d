/- change.printValue: the walk. -/
import Derived.Test.YthokcdjmhhlcdaaGreatDoorChWrite
namespace Go.Proofs.YthokcdjmhhlcdaaGreatDoor
open Go.RowKit Go.Shelf Plain
set_option linter.unusedVariables false
set_option linter.unusedSimpArgs false
theorem esc_len (b : UInt8) : (esc b).length ≤ 2 := by
  unfold esc
  split <;> (try split) <;> (try split) <;> (try split) <;> simp
theorem valueL_len : ∀ l : List UInt8, (valueL l).length ≤ 2 * l.length
  | [] => by simp [valueL]
  | b :: l => by
    have := valueL_len l
    have h := esc_len b
    unfold valueL at this ⊢
    rw [List.flatMap_cons, List.length_append, List.length_cons]; omega
theorem valueL_snoc {l : List UInt8} {m : Nat} {q : UInt8} (h : l[m]? = some q) : valueL (l.take (m + 1)) = valueL (l.take m) ++ esc q := by
  unfold valueL
  rw [List.take_add_one, h, List.flatMap_append]
  simp
set_option maxRecDepth 100000 in
set_option maxHeartbeats 16000000 in
theorem printval_any (s : ByteArray) (w : World) (hs : s.size ≤ 100000) :
    Calls Tryz.prog 36 #[.string s] w fun e w' => e = .returned (.string (txt (valueL s.data.toList))) ∧ Below w.heap.size w w' := by
  have HSZ := Lib.hid (Lib.size_eq s)
  have HSB := Lib.hid hs
  obtain ⟨wb, hwb⟩ : ∃ W, w.alloc (.cells #[.pointer none, .slice none 0 0] 73) = W := ⟨_, rfl⟩
  have hszb : wb.heap.size = w.heap.size + 1 := by rw [← hwb]; simp
  have hbb : wb.heap[w.heap.size]? = some (.cells #[.pointer none, .slice none 0 0] 73 (0, 0)) := by rw [← hwb]; exact heap_alloc_new _ _
  have HBB : Hid (Below w.heap.size w wb) := by rw [← hwb]; exact (Below.refl _ _).alloc (Nat.le_refl _) _
  have hnew := Lib.bytesWorld_at_new wb 5 s
  have hbl : Below wb.heap.size wb (Lib.bytesWorld wb 5 s) := Lib.bytesWorld_below _ _ _
  obtain ⟨cp, hcp, hcv⟩ := conv_bytes wb s
  rw [hszb] at hnew hcv
  have HCELL : Hid (∀ m, m < s.size → (Lib.bytesCells wb 5 s)[m]? = some (.int .u8 ((s.data.toList[m]?.getD 0).toNat : Int))) := fun m hm => by
    have h1 := Lib.bytesWorld_cell wb 5 s m hm
    rw [hszb, cell_of_row _ _ _ _ _ _ hnew] at h1
    rw [h1, List.getD_eq_getElem?_getD]
  have HU0 : Hid (Lib.IsBuilder 73 5 w.heap.size w.heap.size (Lib.byteCells (valueL (s.data.toList.take 0))) (Lib.bytesWorld wb 5 s)) :=
    .inl ⟨Nat.le_refl _, _, (hbl.block w.heap.size (by omega)).trans hbb, World.ownsRow_nil _ _ _ _, by simp [Value.ownBlock]⟩
  have HR0 := Lib.hid hnew
  have HB0 : Hid (Below w.heap.size w (Lib.bytesWorld wb 5 s)) := HBB.out.trans (hbl.mono HBB.out.size)
  clear hbb hnew hbl hcp hs hszb
  subst hwb
  go_enter Tryz.func36, Tryz.ntmps36
  go_wp2_with fail
  clear hcv
  generalize Lib.bytesWorld (w.alloc (.cells #[.pointer none, .slice none 0 0] 73)) 5 s = w1 at *
  generalize Lib.bytesCells (w.alloc (.cells #[.pointer none, .slice none 0 0] 73)) 5 s = bc at *
  go_loopw [9] (fun i wr => ∃ m : Nat, m ≤ s.size ∧ i = .int .i64 (m : Int) ∧ Lib.IsBuilder 73 5 w.heap.size w.heap.size (Lib.byteCells (valueL (s.data.toList.take m))) wr ∧ Below w.heap.size w wr ∧ wr.heap[w.heap.size + 1]? = some (.cells bc 5 (bc.size, bc.size + 1))) (fun i _ => s.size - (intOf i).toNat)
  case atStart => exact ⟨0, Nat.zero_le _, rfl, HU0.out, HB0.out, HR0.out⟩
  case round =>
    obtain ⟨m, hm, rfl, hu, hb, hr⟩ := hrel
    have HU := Lib.hid hu
    have HBW := Lib.hid hb
    have HRW := Lib.hid hr
    have WM := Lib.hid (next_int m (by have := HSB.out; omega))
    have HN : Hid (w.heap.size ≤ wr.heap.size) := HBW.out.size
    clear hu hb hr HU0 HB0 HR0
    by_cases hms : m < s.size
    · have hmi : (m : Int) < (s.size : Int) := by omega
      have HMS := Lib.hid hms
      have hcell : wr.cell? ⟨w.heap.size + 1, m, none⟩ = some (.int .u8 ((s.data.toList[m]?.getD 0).toNat : Int)) := by
        rw [cell_of_row _ _ _ _ _ _ HRW.out]; exact HCELL.out m hms
      have HGM : Hid (s.data.toList[m]? = some (s.data.toList[m]?.getD 0)) := by
        show _ = _
        rw [List.getElem?_eq_getElem (by rw [← HSZ.out]; exact hms)]; rfl
      have HVL : Hid ((valueL (s.data.toList.take m)).length ≤ 200000) := by
        show _ ≤ _
        have h1 := valueL_len (s.data.toList.take m)
        rw [List.length_take] at h1
        have := HSB.out
        omega
      obtain ⟨q, hq⟩ : ∃ q, s.data.toList[m]?.getD 0 = q := ⟨_, rfl⟩
      rw [hq] at hcell HGM
      have HTV := Lib.hid (valueL_snoc HGM.out)
      clear hq hms hm
      by_cases hq92 : q = 92
      · subst hq92
        have hcell : wr.cell? ⟨w.heap.size + 1, m, none⟩ = some (.int .u8 92) := hcell
        have HVV : Hid (valueL (s.data.toList.take m) ++ (⟨#[92, 92]⟩ : ByteArray).data.toList = valueL (s.data.toList.take (m + 1))) := by show _ = _; rw [HTV.out]; rfl
        go_wp2_with fail
        clear hcell
        refine (writeStr_k w.heap.size w.heap.size (valueL (s.data.toList.take m)) ⟨#[92, 92]⟩ wr HU.out (by have := HVL.out; show _ + 2 ≤ _; omega) HN.out).mono ?_
        rintro e w2 ⟨rfl, ⟨hu, hb⟩, hk⟩
        rw [HVV.out] at hu
        have HU2 := Lib.hid hu
        have HB2 := Lib.hid (HBW.out.trans hb)
        have HR2 := Lib.hid (hk _ _ _ _ (by omega) (.inr (by simp)) HRW.out)
        clear hu hb hk
        go_wp2_with fail
        exact ⟨⟨m + 1, HMS.out, by first | rw [WM.out _ rfl] | rfl, .inr HU2.out, HB2.out, HR2.out⟩, by have := HMS.out; (first | rw [WM.out _ rfl] | skip); simp [intOf]; omega⟩
      by_cases hq10 : q = 10
      · subst hq10
        have hcell : wr.cell? ⟨w.heap.size + 1, m, none⟩ = some (.int .u8 10) := hcell
        have HVV : Hid (valueL (s.data.toList.take m) ++ (⟨#[92, 110]⟩ : ByteArray).data.toList = valueL (s.data.toList.take (m + 1))) := by show _ = _; rw [HTV.out]; rfl
        go_wp2_with fail
        clear hcell
        refine (writeStr_k w.heap.size w.heap.size (valueL (s.data.toList.take m)) ⟨#[92, 110]⟩ wr HU.out (by have := HVL.out; show _ + 2 ≤ _; omega) HN.out).mono ?_
        rintro e w2 ⟨rfl, ⟨hu, hb⟩, hk⟩
        rw [HVV.out] at hu
        have HU2 := Lib.hid hu
        have HB2 := Lib.hid (HBW.out.trans hb)
        have HR2 := Lib.hid (hk _ _ _ _ (by omega) (.inr (by simp)) HRW.out)
        clear hu hb hk
        go_wp2_with fail
        exact ⟨⟨m + 1, HMS.out, by first | rw [WM.out _ rfl] | rfl, .inr HU2.out, HB2.out, HR2.out⟩, by have := HMS.out; (first | rw [WM.out _ rfl] | skip); simp [intOf]; omega⟩
      by_cases hq13 : q = 13
      · subst hq13
        have hcell : wr.cell? ⟨w.heap.size + 1, m, none⟩ = some (.int .u8 13) := hcell
        have HVV : Hid (valueL (s.data.toList.take m) ++ (⟨#[92, 114]⟩ : ByteArray).data.toList = valueL (s.data.toList.take (m + 1))) := by show _ = _; rw [HTV.out]; rfl
        go_wp2_with fail
        clear hcell
        refine (writeStr_k w.heap.size w.heap.size (valueL (s.data.toList.take m)) ⟨#[92, 114]⟩ wr HU.out (by have := HVL.out; show _ + 2 ≤ _; omega) HN.out).mono ?_
        rintro e w2 ⟨rfl, ⟨hu, hb⟩, hk⟩
        rw [HVV.out] at hu
        have HU2 := Lib.hid hu
        have HB2 := Lib.hid (HBW.out.trans hb)
        have HR2 := Lib.hid (hk _ _ _ _ (by omega) (.inr (by simp)) HRW.out)
        clear hu hb hk
        go_wp2_with fail
        exact ⟨⟨m + 1, HMS.out, by first | rw [WM.out _ rfl] | rfl, .inr HU2.out, HB2.out, HR2.out⟩, by have := HMS.out; (first | rw [WM.out _ rfl] | skip); simp [intOf]; omega⟩
      by_cases hq0 : q = 0
      · subst hq0
        have hcell : wr.cell? ⟨w.heap.size + 1, m, none⟩ = some (.int .u8 0) := hcell
        have HVV : Hid (valueL (s.data.toList.take m) ++ (⟨#[92, 48]⟩ : ByteArray).data.toList = valueL (s.data.toList.take (m + 1))) := by show _ = _; rw [HTV.out]; rfl
        go_wp2_with fail
        clear hcell
        refine (writeStr_k w.heap.size w.heap.size (valueL (s.data.toList.take m)) ⟨#[92, 48]⟩ wr HU.out (by have := HVL.out; show _ + 2 ≤ _; omega) HN.out).mono ?_
        rintro e w2 ⟨rfl, ⟨hu, hb⟩, hk⟩
        rw [HVV.out] at hu
        have HU2 := Lib.hid hu
        have HB2 := Lib.hid (HBW.out.trans hb)
        have HR2 := Lib.hid (hk _ _ _ _ (by omega) (.inr (by simp)) HRW.out)
        clear hu hb hk
        go_wp2_with fail
        exact ⟨⟨m + 1, HMS.out, by first | rw [WM.out _ rfl] | rfl, .inr HU2.out, HB2.out, HR2.out⟩, by have := HMS.out; (first | rw [WM.out _ rfl] | skip); simp [intOf]; omega⟩
      have HVV : Hid (Lib.byteCells (valueL (s.data.toList.take m)) ++ [.int .u8 (q.toNat : Int)] = Lib.byteCells (valueL (s.data.toList.take (m + 1)))) := by
        show _ = _
        rw [HTV.out, show esc q = [q] by unfold esc; rw [if_neg hq92, if_neg hq10, if_neg hq13, if_neg hq0]]
        unfold Lib.byteCells
        rw [List.map_append]; rfl
      have hi92 : ¬ ((q.toNat : Nat) : Int) = 92 := fun h => hq92 (UInt8.toNat_inj.1 (by show q.toNat = 92; omega))
      have hb92 : (((q.toNat : Nat) : Int) == 92) = false := beq_eq_false_iff_ne.2 hi92
      have hi10 : ¬ ((q.toNat : Nat) : Int) = 10 := fun h => hq10 (UInt8.toNat_inj.1 (by show q.toNat = 10; omega))
      have hb10 : (((q.toNat : Nat) : Int) == 10) = false := beq_eq_false_iff_ne.2 hi10
      have hi13 : ¬ ((q.toNat : Nat) : Int) = 13 := fun h => hq13 (UInt8.toNat_inj.1 (by show q.toNat = 13; omega))
      have hb13 : (((q.toNat : Nat) : Int) == 13) = false := beq_eq_false_iff_ne.2 hi13
      have hi0 : ¬ ((q.toNat : Nat) : Int) = 0 := fun h => hq0 (UInt8.toNat_inj.1 (by show q.toNat = 0; omega))
      have hb0 : (((q.toNat : Nat) : Int) == 0) = false := beq_eq_false_iff_ne.2 hi0
      clear hq92 hq10 hq13 hq0
      generalize ((q.toNat : Nat) : Int) = qi at *
      go_wp2_with fail
      clear hcell
      refine (writeByte_k w.heap.size w.heap.size (Lib.byteCells (valueL (s.data.toList.take m))) qi wr HU.out (by have := HVL.out; rw [Lib.byteCells_length]; omega) HN.out).mono ?_
      rintro e w2 ⟨rfl, ⟨hu, hb⟩, hk⟩
      rw [HVV.out] at hu
      have HU2 := Lib.hid hu
      have HB2 := Lib.hid (HBW.out.trans hb)
      have HR2 := Lib.hid (hk _ _ _ _ (by omega) (.inr (by simp)) HRW.out)
      clear hu hb hk
      go_wp2_with fail
      exact ⟨⟨m + 1, HMS.out, by first | rw [WM.out _ rfl] | rfl, .inr HU2.out, HB2.out, HR2.out⟩, by have := HMS.out; (first | rw [WM.out _ rfl] | skip); simp [intOf]; omega⟩
    · have hmi : ¬ (m : Int) < (s.size : Int) := by omega
      have HUE : Hid (Lib.IsBuilder 73 5 w.heap.size w.heap.size (Lib.byteCells (valueL s.data.toList)) wr) := by
        have := HU.out
        rwa [List.take_of_length_le (by rw [← HSZ.out]; omega)] at this
      clear hms hm
      go_wp2_with fail
      refine (Tryz.Builder_String_any w.heap.size w.heap.size (valueL s.data.toList) wr HUE.out HN.out).mono ?_
      rintro e w2 ⟨rfl, hb⟩
      have HB2 := Lib.hid (HBW.out.trans hb)
      clear hb
      go_wp2_with fail
      go_ret
      exact ⟨rfl, HB2.out⟩
end Go.Proofs.YthokcdjmhhlcdaaGreatDoor
