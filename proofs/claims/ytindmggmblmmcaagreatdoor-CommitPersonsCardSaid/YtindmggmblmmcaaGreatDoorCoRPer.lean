/- The document's test of a person: the walk. -/
import Derived.Test.YtindmggmblmmcaaGreatDoorCoHas
namespace Go.Proofs.YtindmggmblmmcaaGreatDoor
open Go.RowKit Plain
set_option linter.unusedVariables false
set_option linter.unusedSimpArgs false
theorem whoB_has (x : WX) : whoB x = (!(hasB badW x.n.data.toList || hasB badW x.m.data.toList) && decide (0 ≤ x.t) && decide (x.t ≤ 4611686018427387903) && zoneB x.z.data.toList) := by
  unfold whoB noAny hasB
  rw [List.any_append]
set_option maxRecDepth 100000 in
set_option maxHeartbeats 8000000 in
theorem rperson_any (x : WX) (w : World) (hs : WhoSmall x) : Calls Tryz.prog 26 #[.agg (whoA x)] w fun e w' => e = .returned (.bool (whoB x)) ∧ Below w.heap.size w w' := by
  have HS := Lib.hid hs
  have HB0 : Hid (Below w.heap.size w (w.alloc (.cells (whoA x) 25))) := (Below.refl _ _).alloc (Nat.le_refl _) _
  have HR0 : Hid ((w.alloc (.cells (whoA x) 25)).heap[w.heap.size]? = some (.cells (whoA x) 25 (0, 0))) := heap_alloc_new _ _
  obtain ⟨hc0, hc1, hc2, hc3⟩ := who_cell HR0.out
  have HA := Lib.hid fun W => has_any x.n.data.toList badW W (by rw [← Lib.size_eq]; have := HS.out.1; omega) (by decide)
  have HM := Lib.hid fun W => has_any x.m.data.toList badW W (by rw [← Lib.size_eq]; have := HS.out.2.1; omega) (by decide)
  simp only [txt_of] at HA HM
  obtain ⟨b1, hb1⟩ : ∃ b, hasB badW x.n.data.toList = b := ⟨_, rfl⟩
  obtain ⟨b2, hb2⟩ : ∃ b, hasB badW x.m.data.toList = b := ⟨_, rfl⟩
  have HWB : Hid (whoB x = (!(b1 || b2) && decide (0 ≤ x.t) && decide (x.t ≤ 4611686018427387903) && zoneB x.z.data.toList)) := by show _ = _; rw [whoB_has, hb1, hb2]
  simp only [hb1] at HA
  simp only [hb2] at HM
  clear hs hb1 hb2
  go_enter Tryz.func26, Tryz.ntmps26
  go_wp2_with fail
  clear hc0 hc1 hc2 hc3
  generalize w.alloc (.cells (whoA x) 25) = w0 at *
  obtain ⟨p0, hp0⟩ : ∃ p, w.heap.size = p := ⟨_, rfl⟩
  simp only [hp0] at HR0 ⊢
  have HPE := Lib.hid hp0
  clear hp0
  refine (HA.out w0).mono ?_
  rintro e w1 ⟨rfl, hb⟩
  have HR1 := Lib.hid ((hb.block p0 (Array.getElem?_eq_some_iff.1 HR0.out).1).trans HR0.out)
  have HB1 := Lib.hid (HB0.out.trans (hb.mono HB0.out.size))
  clear hb
  cases b1
  rotate_left
  · have HF : Hid (whoB x = false) := by show _ = _; rw [HWB.out]; rfl
    go_wp2_with fail
    go_ret
    exact ⟨by rw [HF.out] <;> rfl, HB1.out⟩
  obtain ⟨hc0, hc1, hc2, hc3⟩ := who_cell HR1.out
  go_wp2_with fail
  clear hc0 hc1 hc2 hc3
  refine (HM.out w1).mono ?_
  rintro e w2 ⟨rfl, hb⟩
  have HR2 := Lib.hid ((hb.block p0 (Array.getElem?_eq_some_iff.1 HR1.out).1).trans HR1.out)
  have HB2 := Lib.hid (HB1.out.trans (hb.mono HB1.out.size))
  clear hb
  cases b2
  rotate_left
  · have HF : Hid (whoB x = false) := by show _ = _; rw [HWB.out]; rfl
    go_wp2_with fail
    go_ret
    exact ⟨by rw [HF.out] <;> rfl, HB2.out⟩
  obtain ⟨-, -, hc2, hc3⟩ := who_cell HR2.out
  by_cases h0 : x.t < 0
  · have HF : Hid (whoB x = false) := by show _ = _; rw [HWB.out, decide_eq_false (by omega : ¬ 0 ≤ x.t)]; rfl
    go_wp2_with fail
    go_ret
    exact ⟨by rw [HF.out] <;> rfl, HB2.out⟩
  by_cases h1 : 4611686018427387904 ≤ x.t
  · have HF : Hid (whoB x = false) := by show _ = _; rw [HWB.out, decide_eq_true (by omega : 0 ≤ x.t), decide_eq_false (by omega : ¬ x.t ≤ 4611686018427387903)]; rfl
    go_wp2_with fail
    go_ret
    exact ⟨by rw [HF.out] <;> rfl, HB2.out⟩
  have HZB : Hid (whoB x = zoneB x.z.data.toList) := by show _ = _; rw [HWB.out, decide_eq_true (by omega : 0 ≤ x.t), decide_eq_true (by omega : x.t ≤ 4611686018427387903)]; simp
  have HSZ := Lib.hid (Lib.size_eq x.z)
  by_cases h5 : x.z.size = 5
  rotate_left
  · have hn : ((x.z.size : Int) != 5) = true := bne_iff_ne.2 (by omega)
    have hn2 : ¬ (x.z.size : Int) = 5 := by omega
    have HF : Hid (whoB x = false) := by show _ = _; rw [HZB.out]; unfold zoneB; rw [decide_eq_false (by rw [← HSZ.out]; exact h5)]; rfl
    clear h5
    go_wp2_with fail
    go_ret
    exact ⟨by rw [HF.out] <;> rfl, HB2.out⟩
  have hi5 : (x.z.size : Int) = 5 := by omega
  have hix := fun W => index_text x.z 0 (by omega) 0 rfl W
  obtain ⟨q, hq⟩ : ∃ q, x.z.data.toList[0]?.getD 0 = q := ⟨_, rfl⟩
  have h8 : at8 x.z 0 = q.toNat := by unfold at8; rw [hq]
  rw [h8] at hix
  have HZ : Hid (whoB x = ((q == 43 || q == 45) && (x.z.data.toList.drop 1).all digB)) := by show _ = _; rw [HZB.out]; unfold zoneB; rw [hq, decide_eq_true (by rw [← HSZ.out]; exact h5)]; rfl
  have H5 := Lib.hid h5
  clear h8 hq h5
  by_cases hz : q = 43 ∨ q = 45
  rotate_left
  · have n43 : ¬ q = 43 := fun e => hz (.inl e)
    have n45 : ¬ q = 45 := fun e => hz (.inr e)
    have i43 : ¬ (q.toNat : Int) = 43 := fun e => n43 (UInt8.toNat_inj.1 (by show q.toNat = 43; omega))
    have i45 : ¬ (q.toNat : Int) = 45 := fun e => n45 (UInt8.toNat_inj.1 (by show q.toNat = 45; omega))
    have b43 : ((q.toNat : Int) != 43) = true := bne_iff_ne.2 i43
    have b45 : ((q.toNat : Int) != 45) = true := bne_iff_ne.2 i45
    have HF : Hid (whoB x = false) := by show _ = _; rw [HZ.out, beq_eq_false_iff_ne.2 n43, beq_eq_false_iff_ne.2 n45]; rfl
    clear hz n43 n45
    generalize (q.toNat : Int) = qi at *
    go_wp2_with fail
    go_ret
    exact ⟨by rw [HF.out] <;> rfl, HB2.out⟩
  have HQ : Hid ((q == 43 || q == 45) = true) := by show _ = _; rcases hz with rfl | rfl <;> rfl
  have hqi : (q.toNat : Int) = 43 ∨ (¬ (q.toNat : Int) = 43 ∧ (q.toNat : Int) = 45) := by
    rcases hz with rfl | rfl
    · exact .inl rfl
    · exact .inr ⟨by decide, rfl⟩
  clear hz
  generalize (q.toNat : Int) = qi at *
  rcases hqi with rfl | ⟨g43, rfl⟩
  all_goals
    go_wp2_with fail
    clear hix hc2 hc3
    go_loopw [3] (fun i wr => ∃ m : Nat, 1 ≤ m ∧ m ≤ 5 ∧ i = .int .i64 (m : Int) ∧ (∀ j, 1 ≤ j → j < m → digB (x.z.data.toList[j]?.getD 0) = true) ∧ wr = w2) (fun i _ => 5 - (intOf i).toNat)
    case atStart => exact ⟨1, by omega, by omega, rfl, fun j h h' => by omega, rfl⟩
    case round =>
      obtain ⟨m, hm1, hm, rfl, hno, rfl⟩ := hrel
      rename World => w2
      have HNO := Lib.hid hno
      have HM1 := Lib.hid hm1
      have WM := Lib.hid (next_int m (by omega))
      obtain ⟨-, -, -, hc3⟩ := who_cell HR2.out
      clear hno hm1
      by_cases hms : m < 5
      · have hmi : (m : Int) < 5 := by omega
        have HMS := Lib.hid hms
        have hix2 := fun W => index_text x.z m (by rw [H5.out]; exact hms) (m : Int) rfl W
        obtain ⟨c, hc⟩ : ∃ q, x.z.data.toList[m]?.getD 0 = q := ⟨_, rfl⟩
        have h8 : at8 x.z m = c.toNat := by unfold at8; rw [hc]
        rw [h8] at hix2
        have HGO : Hid (digB c = true → ∀ j, 1 ≤ j → j < m + 1 → digB (x.z.data.toList[j]?.getD 0) = true) := fun h j hj1 hj => by
          by_cases hjm : j = m
          · rw [hjm, hc]; exact h
          · exact HNO.out j hj1 (by omega)
        have HBAD : Hid (digB c = false → whoB x = false) := fun h => by
          have hl : m < x.z.data.toList.length := by rw [← Lib.size_eq, H5.out]; exact HMS.out
          have h1 : (x.z.data.toList.drop 1).all digB = false := by
            rw [List.all_eq_false]
            refine ⟨x.z.data.toList[m], ?_, ?_⟩
            · have : x.z.data.toList[m] = (x.z.data.toList.drop 1)[m - 1]'(by rw [List.length_drop]; have := HM1.out; omega) := by rw [List.getElem_drop]; congr 1; have := HM1.out; omega
              rw [this]; exact List.getElem_mem _
            · rw [List.getElem?_eq_getElem hl] at hc
              rw [show x.z.data.toList[m] = c from hc, h]; decide
          rw [HZ.out, h1, Bool.and_false]
        have hcs : c.toNat < 48 ∨ (48 ≤ c.toNat ∧ c.toNat ≤ 57) ∨ 57 < c.toNat := by omega
        have HD : Hid (digB c = (decide (48 ≤ c.toNat) && decide (c.toNat ≤ 57))) := rfl
        clear hc h8 hms hm
        rcases hcs with g | ⟨g, g'⟩ | g
        · have g1 : (c.toNat : Int) < 48 := by omega
          have HF := Lib.hid (HBAD.out (by rw [HD.out, decide_eq_false (by omega)]; rfl))
          clear g
          generalize (c.toNat : Int) = ci at *
          go_wp2_with fail
          (try simp only [Exit.inBlock, Exit.then])
          go_ret
          exact ⟨by rw [HF.out] <;> rfl, HB2.out⟩
        · have g1 : ¬ (c.toNat : Int) < 48 := by omega
          have g2 : ¬ (57 : Int) < (c.toNat : Int) := by omega
          have HG := Lib.hid (HGO.out (by rw [HD.out, decide_eq_true g, decide_eq_true g']; rfl))
          clear g g'
          generalize (c.toNat : Int) = ci at *
          go_wp2_with fail
          exact ⟨⟨m + 1, by omega, HMS.out, by first | rw [WM.out _ rfl] | rfl, HG.out, by first | rfl | trivial⟩, by have := HMS.out; (first | rw [WM.out _ rfl] | skip); simp [intOf]; omega⟩
        · have g1 : ¬ (c.toNat : Int) < 48 := by omega
          have g2 : (57 : Int) < (c.toNat : Int) := by omega
          have HF := Lib.hid (HBAD.out (by rw [HD.out, decide_eq_false (by omega : ¬ c.toNat ≤ 57), Bool.and_false]))
          clear g
          generalize (c.toNat : Int) = ci at *
          go_wp2_with fail
          (try simp only [Exit.inBlock, Exit.then])
          go_ret
          exact ⟨by rw [HF.out] <;> rfl, HB2.out⟩
      · have hmi : ¬ (m : Int) < 5 := by omega
        have HF : Hid (whoB x = true) := by
          have h1 : (x.z.data.toList.drop 1).all digB = true := by
            rw [List.all_eq_true]
            intro c hc
            obtain ⟨j, hj⟩ := List.mem_iff_getElem?.1 hc
            have hjl := (List.getElem?_eq_some_iff.1 hj).1
            rw [List.length_drop, ← Lib.size_eq, H5.out] at hjl
            have := HNO.out (1 + j) (by omega) (by omega)
            rw [List.getElem?_drop] at hj
            rw [hj] at this
            exact this
          show _ = _
          rw [HZ.out, h1, HQ.out]; rfl
        clear hms hm
        go_wp2_with fail
        go_ret
        exact ⟨by rw [HF.out] <;> rfl, HB2.out⟩
end Go.Proofs.YtindmggmblmmcaaGreatDoor
