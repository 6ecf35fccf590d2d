/- A person: Who.right, rightZone, text, Text: the walks. -/
import Derived.Test.YtindmggmblmmcaaGreatDoorCoMath
namespace Go.Proofs.YtindmggmblmmcaaGreatDoor
open Go.RowKit Plain
set_option linter.unusedVariables false
set_option linter.unusedSimpArgs false
def WhoSmall (x : WX) : Prop := x.n.size ≤ 40000 ∧ x.m.size ≤ 40000 ∧ x.z.size ≤ 40000 ∧ -9223372036854775808 ≤ x.t ∧ x.t ≤ 9223372036854775807
theorem who_cell {w : World} {b : Nat} {x : WX} {t : TypeId} {fr : Nat × Nat} (h : w.heap[b]? = some (.cells (whoA x) t fr)) : w.cell? ⟨b, 0, none⟩ = some (.string x.n) ∧ w.cell? ⟨b, 1, none⟩ = some (.string x.m) ∧ w.cell? ⟨b, 2, none⟩ = some (.int .i64 x.t) ∧ w.cell? ⟨b, 3, none⟩ = some (.string x.z) := by
  refine ⟨?_, ?_, ?_, ?_⟩ <;> (rw [cell_of_row _ _ _ _ _ _ h]; rfl)
set_option maxRecDepth 100000 in
set_option maxHeartbeats 8000000 in
theorem zone_any (s : ByteArray) (w : World) (hs : s.size ≤ 40000) : Calls Tryz.prog 76 #[.string s] w fun e w' => e = .returned (.bool (zoneB s.data.toList)) ∧ Below w.heap.size w w' := by
  have HSZ := Lib.hid (Lib.size_eq s)
  by_cases h5 : s.size = 5
  rotate_left
  · have hn : ((s.size : Int) != 5) = true := bne_iff_ne.2 (by omega)
    have hn2 : ¬ (s.size : Int) = 5 := by omega
    have HF : Hid (zoneB s.data.toList = false) := by show _ = _; unfold zoneB; rw [decide_eq_false (by rw [← HSZ.out]; exact h5)]; rfl
    clear h5
    go_enter Tryz.func76, Tryz.ntmps76
    go_wp2_with fail
    go_ret
    exact ⟨by rw [HF.out]; rfl, Below.refl _ _⟩
  have hi5 : (s.size : Int) = 5 := by omega
  have hix := fun W => index_text s 0 (by omega) 0 rfl W
  obtain ⟨q, hq⟩ : ∃ q, s.data.toList[0]?.getD 0 = q := ⟨_, rfl⟩
  have h8 : at8 s 0 = q.toNat := by unfold at8; rw [hq]
  rw [h8] at hix
  have HZ : Hid (zoneB s.data.toList = ((q == 43 || q == 45) && (s.data.toList.drop 1).all digB)) := by show _ = _; unfold zoneB; rw [hq, decide_eq_true (by rw [← HSZ.out]; exact h5)]; rfl
  clear h8 hq
  by_cases hz : q = 43 ∨ q = 45
  rotate_left
  · have n43 : ¬ q = 43 := fun e => hz (.inl e)
    have n45 : ¬ q = 45 := fun e => hz (.inr e)
    have i43 : ¬ (q.toNat : Int) = 43 := fun e => n43 (UInt8.toNat_inj.1 (by show q.toNat = 43; omega))
    have i45 : ¬ (q.toNat : Int) = 45 := fun e => n45 (UInt8.toNat_inj.1 (by show q.toNat = 45; omega))
    have b43 : ((q.toNat : Int) != 43) = true := bne_iff_ne.2 i43
    have b45 : ((q.toNat : Int) != 45) = true := bne_iff_ne.2 i45
    have HF : Hid (zoneB s.data.toList = false) := by show _ = _; rw [HZ.out, beq_eq_false_iff_ne.2 n43, beq_eq_false_iff_ne.2 n45]; rfl
    clear hz n43 n45
    generalize (q.toNat : Int) = qi at *
    go_enter Tryz.func76, Tryz.ntmps76
    go_wp2_with fail
    go_ret
    exact ⟨by rw [HF.out]; rfl, Below.refl _ _⟩
  have HQ : Hid ((q == 43 || q == 45) = true) := by show _ = _; rcases hz with rfl | rfl <;> rfl
  have hqi : (q.toNat : Int) = 43 ∨ (¬ (q.toNat : Int) = 43 ∧ (q.toNat : Int) = 45) := by
    rcases hz with rfl | rfl
    · exact .inl rfl
    · exact .inr ⟨by decide, rfl⟩
  have hsl := fun W => slice_tail s 1 (by omega) 1 rfl W
  have hts : (s.extract 1 s.size).size = 4 := by rw [ByteArray.size_extract]; omega
  have htl : (s.extract 1 s.size).data.toList = s.data.toList.drop 1 := tail_of s 1
  obtain ⟨r, hr⟩ : ∃ r, s.extract 1 s.size = r := ⟨_, rfl⟩
  rw [hr] at hsl hts htl
  have HTL := Lib.hid htl
  have HRS := Lib.hid hts
  have HB := Lib.hid (bytes_new w r (by omega))
  obtain ⟨cp, hcp, hcv⟩ := conv_bytes w r
  have HBW : Hid (Below w.heap.size w (Lib.bytesWorld w 5 r)) := Lib.bytesWorld_below _ _ _
  rw [hts] at hcv
  clear hz hr htl hts hcp h5 hs
  generalize (q.toNat : Int) = qi at *
  rcases hqi with rfl | ⟨g43, rfl⟩
  all_goals
    go_enter Tryz.func76, Tryz.ntmps76
    go_wp2_with fail
    clear hcv hix hsl
    generalize Lib.bytesWorld w 5 r = w1 at *
    go_loop [22] (fun i => ∃ m : Nat, m ≤ 4 ∧ i = .int .i64 (m : Int) ∧ ∀ j, j < m → digB (r.data.toList[j]?.getD 0) = true) (fun i => 4 - (intOf i).toNat)
    case atStart => exact ⟨0, Nat.zero_le _, rfl, fun j h => by omega⟩
    case round =>
      obtain ⟨m, hm, rfl, hno⟩ := hrel
      have HNO := Lib.hid hno
      have WM := Lib.hid (next_int m (by omega))
      clear hno
      by_cases hms : m < 4
      · have hmi : (m : Int) < 4 := by omega
        have HMS := Lib.hid hms
        have hcell : w1.cell? ⟨w.heap.size, m, none⟩ = some (.int .u8 ((r.data.toList[m]?.getD 0).toNat : Int)) := by
          rcases HB.out.2.2.2 with h0 | ⟨b, off, hb, hc⟩
          · have := HRS.out; omega
          · simp only [Option.some.injEq, Addr.mk.injEq] at hb
            obtain ⟨rfl, rfl, -⟩ := hb
            have := hc m (by rw [HRS.out]; exact hms)
            rw [Nat.zero_add] at this
            rw [this]
            unfold numsOf
            rw [List.getElem?_map, List.getElem?_eq_getElem (by rw [← Lib.size_eq, HRS.out]; exact hms)]
            rfl
        obtain ⟨c, hc⟩ : ∃ q, r.data.toList[m]?.getD 0 = q := ⟨_, rfl⟩
        rw [hc] at hcell
        have HGO : Hid (digB c = true → ∀ j, j < m + 1 → digB (r.data.toList[j]?.getD 0) = true) := fun h j hj => by
          by_cases hjm : j = m
          · rw [hjm, hc]; exact h
          · exact HNO.out j (by omega)
        have HBAD : Hid (digB c = false → zoneB s.data.toList = false) := fun h => by
          have hl : m < r.data.toList.length := by rw [← Lib.size_eq, HRS.out]; exact HMS.out
          have h1 : r.data.toList.all digB = false := by
            rw [List.all_eq_false]
            refine ⟨_, List.getElem_mem hl, ?_⟩
            rw [List.getElem?_eq_getElem hl] at hc
            rw [show r.data.toList[m] = c from hc, h]; decide
          rw [HZ.out, ← HTL.out, h1, Bool.and_false]
        have hcs : c.toNat < 48 ∨ (48 ≤ c.toNat ∧ c.toNat ≤ 57) ∨ 57 < c.toNat := by omega
        have HD : Hid (digB c = (decide (48 ≤ c.toNat) && decide (c.toNat ≤ 57))) := rfl
        clear hc hms hm
        rcases hcs with g | ⟨g, g'⟩ | g
        · have g1 : (c.toNat : Int) < 48 := by omega
          have HF := Lib.hid (HBAD.out (by rw [HD.out, decide_eq_false (by omega)]; rfl))
          clear g
          generalize (c.toNat : Int) = ci at *
          go_wp2_with fail
          (try simp only [Exit.inBlock, Exit.then])
          go_ret
          exact ⟨by rw [HF.out]; rfl, HBW.out⟩
        · have g1 : ¬ (c.toNat : Int) < 48 := by omega
          have g2 : ¬ (57 : Int) < (c.toNat : Int) := by omega
          have HG := Lib.hid (HGO.out (by rw [HD.out, decide_eq_true g, decide_eq_true g']; rfl))
          clear g g'
          generalize (c.toNat : Int) = ci at *
          go_wp2_with fail
          exact ⟨⟨m + 1, HMS.out, by first | rw [WM.out _ rfl] | rfl, HG.out⟩, by have := HMS.out; (first | rw [WM.out _ rfl] | skip); simp [intOf]; omega⟩
        · have g1 : ¬ (c.toNat : Int) < 48 := by omega
          have g2 : (57 : Int) < (c.toNat : Int) := by omega
          have HF := Lib.hid (HBAD.out (by rw [HD.out, decide_eq_false (by omega : ¬ c.toNat ≤ 57), Bool.and_false]))
          clear g
          generalize (c.toNat : Int) = ci at *
          go_wp2_with fail
          (try simp only [Exit.inBlock, Exit.then])
          go_ret
          exact ⟨by rw [HF.out]; rfl, HBW.out⟩
      · have hmi : ¬ (m : Int) < 4 := by omega
        have HF : Hid (zoneB s.data.toList = true) := by
          have h1 : r.data.toList.all digB = true := by
            rw [List.all_eq_true]
            intro c hc
            obtain ⟨j, hj⟩ := List.mem_iff_getElem?.1 hc
            have hjl := (List.getElem?_eq_some_iff.1 hj).1
            have := HNO.out j (by rw [← Lib.size_eq, HRS.out] at hjl; omega)
            rw [hj] at this
            exact this
          show _ = _
          rw [HZ.out, ← HTL.out, h1, HQ.out]; rfl
        clear hms hm
        go_wp2_with fail
        go_ret
        exact ⟨by rw [HF.out]; rfl, HBW.out⟩
set_option maxRecDepth 100000 in
set_option maxHeartbeats 8000000 in
theorem who_any (x : WX) (w : World) (hs : WhoSmall x) : Calls Tryz.prog 56 #[.agg (whoA x)] w fun e w' => e = .returned (.bool (whoB x)) ∧ Below w.heap.size w w' := by
  have HS := Lib.hid hs
  have HB0 : Hid (Below w.heap.size w (w.alloc (.cells (whoA x) 31))) := (Below.refl _ _).alloc (Nat.le_refl _) _
  have HR0 : Hid ((w.alloc (.cells (whoA x) 31)).heap[w.heap.size]? = some (.cells (whoA x) 31 (0, 0))) := heap_alloc_new _ _
  obtain ⟨hc0, hc1, hc2, hc3⟩ := who_cell HR0.out
  obtain ⟨NM, hNM⟩ : ∃ l, x.n.data.toList ++ x.m.data.toList = l := ⟨_, rfl⟩
  have HA : Hid (∀ W, (binOp .add 9 (.string x.n) (.string x.m)).run Tryz.prog W = .ok (.string (txt NM)) W) := fun W => add_txt _ _ _ hNM (by have := HS.out; unfold WhoSmall at this; omega) W
  have HNL : Hid ((txt NM).size ≤ 80000) := by show _ ≤ _; rw [txt_size, ← hNM, List.length_append, ← Lib.size_eq, ← Lib.size_eq]; have := HS.out; unfold WhoSmall at this; omega
  obtain ⟨b, hb⟩ : ∃ b, (NM.any fun c => badW.contains c) = b := ⟨_, rfl⟩
  have HCA : Hid (∀ W, Calls Tryz.prog 75 #[.string (txt NM), .string ⟨#[60, 62, 10]⟩] W fun e w' => e = .returned (.bool b) ∧ Below W.heap.size W w') := fun W => by
    have h := containsAny_any (txt NM) ⟨#[60, 62, 10]⟩ W (by have := HNL.out; omega) (by decide) (by decide) (by unfold Ascii; decide)
    rw [containsAny_has, txt_list, show (⟨#[60, 62, 10]⟩ : ByteArray).data.toList = badW from rfl, hb] at h
    exact h
  have HWB : Hid (whoB x = (!b && decide (0 ≤ x.t) && decide (x.t ≤ 4611686018427387903) && zoneB x.z.data.toList)) := by show _ = _; unfold whoB noAny; rw [hNM, hb]
  clear hs hb hNM
  go_enter Tryz.func56, Tryz.ntmps56
  go_wp2_with (first
    | refine wpList_eql (by rfl) .add 9 _ _ _ rfl (.string x.n) (.string x.m) rfl rfl (.string (txt NM)) (guard_addn _ _ _ _) HA.out ?_)
  clear hc0 hc1 hc2 hc3
  refine (HCA.out _).mono ?_
  rintro e w2 ⟨rfl, hb⟩
  have hlt : w.heap.size < (w.alloc (.cells (whoA x) 31)).heap.size := by simp
  have hc2 := (hb.cell (p := ⟨w.heap.size, 2, none⟩) hlt).trans (who_cell HR0.out).2.2.1
  have hc3 := (hb.cell (p := ⟨w.heap.size, 3, none⟩) hlt).trans (who_cell HR0.out).2.2.2
  have HB2 := Lib.hid (HB0.out.trans (hb.mono HB0.out.size))
  clear hb hlt
  cases b
  rotate_left
  · have HF : Hid (whoB x = false) := by show _ = _; rw [HWB.out]; rfl
    go_wp2_with fail
    go_ret
    exact ⟨by rw [HF.out]; rfl, HB2.out⟩
  by_cases h0 : 0 ≤ x.t
  rotate_left
  · have HF : Hid (whoB x = false) := by show _ = _; rw [HWB.out, decide_eq_false h0]; rfl
    go_wp2_with fail
    go_ret
    exact ⟨by rw [HF.out]; rfl, HB2.out⟩
  by_cases h1 : x.t ≤ 4611686018427387903
  rotate_left
  · have HF : Hid (whoB x = false) := by show _ = _; rw [HWB.out, decide_eq_true h0, decide_eq_false h1]; rfl
    go_wp2_with fail
    go_ret
    exact ⟨by rw [HF.out]; rfl, HB2.out⟩
  have HF : Hid (whoB x = zoneB x.z.data.toList) := by show _ = _; rw [HWB.out, decide_eq_true h0, decide_eq_true h1]; rfl
  go_wp2_with fail
  refine (zone_any x.z w2 HS.out.2.2.1).mono ?_
  rintro e w3 ⟨rfl, hb⟩
  have HB3 := Lib.hid (HB2.out.trans (hb.mono HB2.out.size))
  clear hb
  go_wp2_with fail
  go_ret
  rw [HF.out]
  exact ⟨rfl, HB3.out⟩
set_option maxRecDepth 100000 in
set_option maxHeartbeats 8000000 in
theorem whotext_any (x : WX) (w : World) (hE : EnvC w) (hs : WhoSmall x) : Calls Tryz.prog 34 #[.agg (whoA x)] w fun e w' => e = .returned (.string (txt (whoT x))) ∧ Below w.heap.size w w' := by
  have HE := Lib.hid hE
  have HS := Lib.hid hs
  have HTB : Hid (-9223372036854775808 ≤ x.t ∧ x.t ≤ 9223372036854775807) := hs.2.2.2
  have HB0 : Hid (Below w.heap.size w (w.alloc (.cells (whoA x) 31))) := (Below.refl _ _).alloc (Nat.le_refl _) _
  have HR0 : Hid ((w.alloc (.cells (whoA x) 31)).heap[w.heap.size]? = some (.cells (whoA x) 31 (0, 0))) := heap_alloc_new _ _
  have hla := itoa_len x.t HTB.out
  have hn := hs.1
  have hm := hs.2.1
  have hz := hs.2.2.1
  obtain ⟨T1, h1⟩ : ∃ l, x.n.data.toList ++ [32, 60] = l := ⟨_, rfl⟩
  obtain ⟨T2, h2⟩ : ∃ l, T1 ++ x.m.data.toList = l := ⟨_, rfl⟩
  obtain ⟨T3, h3⟩ : ∃ l, T2 ++ [62, 32] = l := ⟨_, rfl⟩
  obtain ⟨T4, h4⟩ : ∃ l, T3 ++ Lib.itoa x.t = l := ⟨_, rfl⟩
  obtain ⟨T5, h5⟩ : ∃ l, T4 ++ [32] = l := ⟨_, rfl⟩
  obtain ⟨T6, h6⟩ : ∃ l, T5 ++ x.z.data.toList = l := ⟨_, rfl⟩
  have l1 : T1.length ≤ 40002 := by rw [← h1, List.length_append, ← Lib.size_eq]; simp; omega
  have l2 : T2.length ≤ 80002 := by rw [← h2, List.length_append, ← Lib.size_eq]; omega
  have l3 : T3.length ≤ 80004 := by rw [← h3, List.length_append]; simp; omega
  have l4 : T4.length ≤ 80025 := by rw [← h4, List.length_append]; omega
  have l5 : T5.length ≤ 80026 := by rw [← h5, List.length_append]; simp; omega
  have HA1 : Hid (∀ W, (binOp .add 9 (.string x.n) (.string ⟨#[32, 60]⟩)).run Tryz.prog W = .ok (.string (txt T1)) W) := fun W => add_txt _ _ _ h1 (by show _ + 2 ≤ _; omega) W
  have HA2 : Hid (∀ W, (binOp .add 9 (.string (txt T1)) (.string x.m)).run Tryz.prog W = .ok (.string (txt T2)) W) := fun W => add_txt _ _ _ (by rw [txt_list]; exact h2) (by rw [txt_size]; omega) W
  have HA3 : Hid (∀ W, (binOp .add 9 (.string (txt T2)) (.string ⟨#[62, 32]⟩)).run Tryz.prog W = .ok (.string (txt T3)) W) := fun W => add_txt _ _ _ (by rw [txt_list]; exact h3) (by rw [txt_size]; show _ + 2 ≤ _; omega) W
  have HA4 : Hid (∀ W, (binOp .add 9 (.string (txt T3)) (.string (txt (Lib.itoa x.t)))).run Tryz.prog W = .ok (.string (txt T4)) W) := fun W => add_txt _ _ _ (by rw [txt_list, txt_list]; exact h4) (by rw [txt_size, txt_size]; omega) W
  have HA5 : Hid (∀ W, (binOp .add 9 (.string (txt T4)) (.string ⟨#[32]⟩)).run Tryz.prog W = .ok (.string (txt T5)) W) := fun W => add_txt _ _ _ (by rw [txt_list]; exact h5) (by rw [txt_size]; show _ + 1 ≤ _; omega) W
  have HA6 : Hid (∀ W, (binOp .add 9 (.string (txt T5)) (.string x.z)).run Tryz.prog W = .ok (.string (txt T6)) W) := fun W => add_txt _ _ _ (by rw [txt_list]; exact h6) (by rw [txt_size]; omega) W
  have HT6 : Hid (whoT x = T6) := by show _ = _; rw [← h6, ← h5, ← h4, ← h3, ← h2, ← h1]; rfl
  clear hs hE hla hn hm hz h1 h2 h3 h4 h5 h6 l1 l2 l3 l4 l5
  go_enter Tryz.func34, Tryz.ntmps34
  go_wp2_with fail
  generalize w.alloc (.cells (whoA x) 31) = w0 at *
  obtain ⟨p0, hp0⟩ : ∃ p, w.heap.size = p := ⟨_, rfl⟩
  rw [hp0] at HR0 ⊢
  have HPE := Lib.hid hp0
  clear hp0
  have HLT : Hid (p0 < w0.heap.size) := (Array.getElem?_eq_some_iff.1 HR0.out).1
  have HC0 : Hid (∀ W, Below w0.heap.size w0 W → W.cell? ⟨p0, 0, none⟩ = some (.string x.n)) := fun W hW => (hW.cell (p := ⟨p0, 0, none⟩) HLT.out).trans (who_cell HR0.out).1
  have HC1 : Hid (∀ W, Below w0.heap.size w0 W → W.cell? ⟨p0, 1, none⟩ = some (.string x.m)) := fun W hW => (hW.cell (p := ⟨p0, 1, none⟩) HLT.out).trans (who_cell HR0.out).2.1
  have HC2 : Hid (∀ W, Below w0.heap.size w0 W → W.cell? ⟨p0, 2, none⟩ = some (.int .i64 x.t)) := fun W hW => (hW.cell (p := ⟨p0, 2, none⟩) HLT.out).trans (who_cell HR0.out).2.2.1
  have HC3 : Hid (∀ W, Below w0.heap.size w0 W → W.cell? ⟨p0, 3, none⟩ = some (.string x.z)) := fun W hW => (hW.cell (p := ⟨p0, 3, none⟩) HLT.out).trans (who_cell HR0.out).2.2.2
  refine wp_region_noPanic ?_
  refine wp_region_held_drew (S := fun W => Below w0.heap.size w0 W) (by kernel_rfl) ?_ (fun hHeld => ?_)
  · exact (Below.refl _ _).drew
  refine wpAnyH_take (i := 0) (v := ?_) (by simp only [List.getElem?_toArray, List.getElem?_cons_zero]; rfl) (by kernel_rfl) (by kernel_rfl) (by kernel_rfl) (fun _ _ _ h => h) (Or.inl ⟨by rfl, ?_⟩) (by assumption) ?_
  rotate_left
  · intro W hSW
    go_simp
    try with_reducible rfl
  try simp only [Act.put, List.setIfInBounds_toArray, List.set_cons_zero, List.set_cons_succ]
  refine wpAnyH_take (i := 1) (by simp only [List.getElem?_toArray, List.getElem?_cons_succ, List.getElem?_cons_zero]; rfl) (by kernel_rfl) (by kernel_rfl) (by kernel_rfl) (fun _ _ _ h => h) (yieldsIf_load_str (by rfl) 9 _ rfl p0 0 rfl x.n (fun W hSW => HC0.out W hSW) Tryz.underlying9) (by assumption) ?_
  try simp only [Act.put, List.setIfInBounds_toArray, List.set_cons_zero, List.set_cons_succ]
  refine wpAnyH_take (i := 2) (by simp only [List.getElem?_toArray, List.getElem?_cons_succ, List.getElem?_cons_zero]; rfl) (by kernel_rfl) (by kernel_rfl) (by kernel_rfl) (fun _ _ _ h => h) (yieldsIf_eql (by rfl) .add 9 _ _ _ rfl (.string x.n) (.string ⟨#[32, 60]⟩) rfl rfl (.string (txt T1)) (guard_addn _ _ _ _) (fun W => HA1.out W)) (by assumption) ?_
  try simp only [Act.put, List.setIfInBounds_toArray, List.set_cons_zero, List.set_cons_succ]
  refine wpAnyH_take (i := 3) (v := ?_) (by simp only [List.getElem?_toArray, List.getElem?_cons_succ, List.getElem?_cons_zero]; rfl) (by kernel_rfl) (by kernel_rfl) (by kernel_rfl) (fun _ _ _ h => h) (Or.inl ⟨by rfl, ?_⟩) (by assumption) ?_
  rotate_left
  · intro W hSW
    go_simp
    try with_reducible rfl
  try simp only [Act.put, List.setIfInBounds_toArray, List.set_cons_zero, List.set_cons_succ]
  refine wpAnyH_take (i := 4) (by simp only [List.getElem?_toArray, List.getElem?_cons_succ, List.getElem?_cons_zero]; rfl) (by kernel_rfl) (by kernel_rfl) (by kernel_rfl) (fun _ _ _ h => h) (yieldsIf_load_str (by rfl) 9 _ rfl p0 1 rfl x.m (fun W hSW => HC1.out W hSW) Tryz.underlying9) (by assumption) ?_
  try simp only [Act.put, List.setIfInBounds_toArray, List.set_cons_zero, List.set_cons_succ]
  refine wpAnyH_take (i := 5) (by simp only [List.getElem?_toArray, List.getElem?_cons_succ, List.getElem?_cons_zero]; rfl) (by kernel_rfl) (by kernel_rfl) (by kernel_rfl) (fun _ _ _ h => h) (yieldsIf_eql (by rfl) .add 9 _ _ _ rfl (.string (txt T1)) (.string x.m) rfl rfl (.string (txt T2)) (guard_addn _ _ _ _) (fun W => HA2.out W)) (by assumption) ?_
  try simp only [Act.put, List.setIfInBounds_toArray, List.set_cons_zero, List.set_cons_succ]
  refine wpAnyH_take (i := 6) (by simp only [List.getElem?_toArray, List.getElem?_cons_succ, List.getElem?_cons_zero]; rfl) (by kernel_rfl) (by kernel_rfl) (by kernel_rfl) (fun _ _ _ h => h) (yieldsIf_eql (by rfl) .add 9 _ _ _ rfl (.string (txt T2)) (.string ⟨#[62, 32]⟩) rfl rfl (.string (txt T3)) (guard_addn _ _ _ _) (fun W => HA3.out W)) (by assumption) ?_
  try simp only [Act.put, List.setIfInBounds_toArray, List.set_cons_zero, List.set_cons_succ]
  refine wpAnyH_take (i := 7) (v := ?_) (by simp only [List.getElem?_toArray, List.getElem?_cons_succ, List.getElem?_cons_zero]; rfl) (by kernel_rfl) (by kernel_rfl) (by kernel_rfl) (fun _ _ _ h => h) (Or.inl ⟨by rfl, ?_⟩) (by assumption) ?_
  rotate_left
  · intro W hSW
    go_simp
    try with_reducible rfl
  try simp only [Act.put, List.setIfInBounds_toArray, List.set_cons_zero, List.set_cons_succ]
  refine wpAnyH_take (i := 8) (by simp only [List.getElem?_toArray, List.getElem?_cons_succ, List.getElem?_cons_zero]; rfl) (by kernel_rfl) (by kernel_rfl) (by kernel_rfl) (fun _ _ _ h => h) (yieldsIf_load_int (by rfl) 3 _ rfl p0 2 rfl x.t (fun W hSW => HC2.out W hSW) Tryz.underlying3) (by assumption) ?_
  try simp only [Act.put, List.setIfInBounds_toArray, List.set_cons_zero, List.set_cons_succ]
  refine wpAnyH_take (i := 12) (v := ?_) (by simp only [List.getElem?_toArray, List.getElem?_cons_succ, List.getElem?_cons_zero]; rfl) (by kernel_rfl) (by kernel_rfl) (by kernel_rfl) (fun _ _ _ h => h) (Or.inl ⟨by rfl, ?_⟩) (by assumption) ?_
  rotate_left
  · intro W hSW
    go_simp
    try with_reducible rfl
  try simp only [Act.put, List.setIfInBounds_toArray, List.set_cons_zero, List.set_cons_succ]
  refine wpAnyH_take (i := 13) (by simp only [List.getElem?_toArray, List.getElem?_cons_succ, List.getElem?_cons_zero]; rfl) (by kernel_rfl) (by kernel_rfl) (by kernel_rfl) (fun _ _ _ h => h) (yieldsIf_load_str (by rfl) 9 _ rfl p0 3 rfl x.z (fun W hSW => HC3.out W hSW) Tryz.underlying9) (by assumption) ?_
  try simp only [Act.put, List.setIfInBounds_toArray, List.set_cons_zero, List.set_cons_succ]
  refine wpAnyH_ready (rs := [9]) (by kernel_rfl) (by simp) ?_
  refine AllReadyH.cons (by simp only [List.getElem?_toArray, List.getElem?_cons_succ, List.getElem?_cons_zero]; rfl) (fun K hK => ?_) AllReadyH.nil
  go_simp
  refine (decz_any x.t HTB.out.1 HTB.out.2 _ (HE.out.below (HB0.out.trans ((Below.refl w0.heap.size w0).drew.mono HB0.out.size))).tab).mono ?_
  rintro e v1 ⟨rfl, hb⟩
  have hb1 : Below w0.heap.size w0 v1 := (Below.refl _ _).drew.trans hb
  have HV1 := Lib.hid hb1
  clear hb hb1
  go_wp2_with fail
  refine hK.out _ _ (HV1.out) (fun hHeld2 => ?_)
  clear hK K hHeld
  have hHeld := hHeld2
  clear hHeld2
  try simp only [Act.put, List.setIfInBounds_toArray, List.set_cons_zero, List.set_cons_succ]
  refine wpAnyH_take (i := 10) (by simp only [List.getElem?_toArray, List.getElem?_cons_succ, List.getElem?_cons_zero]; rfl) (by kernel_rfl) (by kernel_rfl) (by kernel_rfl) (fun _ _ _ h => h) (yieldsIf_eql (by rfl) .add 9 _ _ _ rfl (.string (txt T3)) (.string (txt (Lib.itoa x.t))) rfl rfl (.string (txt T4)) (guard_addn _ _ _ _) (fun W => HA4.out W)) (by assumption) ?_
  try simp only [Act.put, List.setIfInBounds_toArray, List.set_cons_zero, List.set_cons_succ]
  refine wpAnyH_take (i := 11) (by simp only [List.getElem?_toArray, List.getElem?_cons_succ, List.getElem?_cons_zero]; rfl) (by kernel_rfl) (by kernel_rfl) (by kernel_rfl) (fun _ _ _ h => h) (yieldsIf_eql (by rfl) .add 9 _ _ _ rfl (.string (txt T4)) (.string ⟨#[32]⟩) rfl rfl (.string (txt T5)) (guard_addn _ _ _ _) (fun W => HA5.out W)) (by assumption) ?_
  try simp only [Act.put, List.setIfInBounds_toArray, List.set_cons_zero, List.set_cons_succ]
  refine wpAnyH_take (i := 14) (by simp only [List.getElem?_toArray, List.getElem?_cons_succ, List.getElem?_cons_zero]; rfl) (by kernel_rfl) (by kernel_rfl) (by kernel_rfl) (fun _ _ _ h => h) (yieldsIf_eql (by rfl) .add 9 _ _ _ rfl (.string (txt T5)) (.string x.z) rfl rfl (.string (txt T6)) (guard_addn _ _ _ _) (fun W => HA6.out W)) (by assumption) ?_
  try simp only [Act.put, List.setIfInBounds_toArray, List.set_cons_zero, List.set_cons_succ]
  refine wpAnyH_take (i := 15) (v := ?_) (by simp only [List.getElem?_toArray, List.getElem?_cons_succ, List.getElem?_cons_zero]; rfl) (by kernel_rfl) (by kernel_rfl) (by kernel_rfl) (fun _ _ _ h => h) (Or.inl ⟨by rfl, ?_⟩) (by assumption) ?_
  rotate_left
  · intro W hSW
    go_simp
    try with_reducible rfl
  try simp only [Act.put, List.setIfInBounds_toArray, List.set_cons_zero, List.set_cons_succ]
  refine wpAnyH_done (by kernel_rfl) ?_ _
  refine NoPanic.normal ?_
  clear hHeld
  go_wp2_with fail
  go_ret
  rw [HT6.out]
  exact ⟨rfl, HB0.out.trans (HV1.out.mono HB0.out.size)⟩
end Go.Proofs.YtindmggmblmmcaaGreatDoor
