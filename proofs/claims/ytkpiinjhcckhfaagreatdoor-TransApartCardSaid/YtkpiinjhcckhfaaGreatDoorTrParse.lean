/- trans.parseWords: the walk. -/
import Derived.Test.YtkpiinjhcckhfaaGreatDoorTrBox
namespace Go.Proofs.YtkpiinjhcckhfaaGreatDoor
open Go.RowKit Plain Go.ChangeShapes Go.WideShapes Go.ChangeAt Go.Great
set_option linter.unusedVariables false
set_option linter.unusedSimpArgs false
theorem spk_no {L : List UInt8} (h : ¬ ((wU L).2.2 = true ∧ (wT L).2.2 = true ∧ (wZ L).2.2 = true ∧ (numW (wT L).1).2 = true ∧ (numW (wZ L).1).2 = true)) : spkC L = none := by
  have e : spkR L = none := by
    unfold spkR
    split <;> try rfl
    split <;> try rfl
    split <;> try rfl
    split <;> try rfl
    split <;> try rfl
    rename_i h1 h2 h3 h4 h5
    exact absurd ⟨h1, h2, h3, h4, h5⟩ h
  unfold spkC
  rw [e]
theorem spk_yes {L : List UInt8} (h1 : (wU L).2.2 = true) (h2 : (wT L).2.2 = true) (h3 : (wZ L).2.2 = true) (h4 : (numW (wT L).1).2 = true) (h5 : (numW (wZ L).1).2 = true) :
    spkC L = match exW ((wZ L).2.1.length + 1) (wZ L).2.1 with | none => none | some xs => if wordsL (spkX L xs) = L then some (spkX L xs) else none := by
  have e : spkR L = (exW ((wZ L).2.1.length + 1) (wZ L).2.1).map (spkX L) := by
    unfold spkR
    rw [if_pos h1, if_pos h2, if_pos h3, if_pos h4, if_pos h5]
  unfold spkC
  rw [e]
  cases exW ((wZ L).2.1.length + 1) (wZ L).2.1 with
  | none => rfl
  | some xs => rfl
/-- What parseWords hands back. -/
def SpkT (B : Nat) (e : Ending) (w' : World) (L : List UInt8) : Prop :=
  (∃ x xa xc, spkC L = some x ∧ e = .returned (.tuple #[.agg (chA x (.slice xa x.xs.length xc) (.slice none 0 0)), .bool true]) ∧ Rw B w' xa x.xs) ∨
  (spkC L = none ∧ ∃ y xv, e = .returned (.tuple #[.agg (chA y xv (.slice none 0 0)), .bool false]) ∧ y.n.length = 20 ∧ xv.oneCell' = true)
theorem map_1u (a : Act) (x : Operand) (v : Value) (h : a.eval x = v) : (#[(1, x)] : Array (Nat × Operand)).map (fun (i, x) => (i, a.eval x)) = #[(1, v)] := by simp [h]
theorem exW_len : ∀ (f : Nat) (l : List UInt8) (xs : List (ByteArray × ByteArray)), exW f l = some xs → xs.length ≤ l.length ∧ ∀ e ∈ xs, e.1.size ≤ l.length ∧ e.2.size ≤ l.length
  | 0, l, xs, h => by cases h
  | f + 1, l, xs, h => by
    by_cases hl : l = []
    · subst hl
      unfold exW at h
      rw [if_pos rfl] at h
      obtain rfl := Option.some.inj h
      exact ⟨Nat.le_refl _, fun e he => by cases he⟩
    · rw [exW_cut f hl] at h
      split at h
      · split at h
        · rename_i h1 h2
          obtain ⟨ys, hy, rfl⟩ := Option.map_eq_some_iff.1 h
          have c1 := cut_len l 32
          have c2 := cutV_len (Lib.cut l [32]).2.1
          have c3 := c2.2 h2
          obtain ⟨i1, i2⟩ := exW_len f _ ys hy
          have c4 : (cutV (Lib.cut l [32]).2.1).1.length ≤ (Lib.cut l [32]).2.1.length := by
            unfold cutV
            cases hx : endX (Lib.cut l [32]).2.1 with
            | none => exact Nat.zero_le _
            | some n =>
              show (Lib.replaceAll _ [10, 32] [10]).length ≤ _
              have hk : allB ((Lib.cut l [32]).2.1.take n) := (endX_back hx).1
              have hr := rep_forth _ _ (Nat.le_refl _) hk
              have h3 := nlB_ge (Lib.replaceAll ((Lib.cut l [32]).2.1.take n) [10, 32] [10])
              rw [hr, List.length_take] at h3
              omega
          refine ⟨?_, fun e he => ?_⟩
          · rw [List.length_cons]; omega
          · rcases List.mem_cons.1 he with rfl | he
            · rw [txt_size, txt_size]
              exact ⟨c1.1, by have := c1.2; omega⟩
            · have := i2 e he
              exact ⟨by omega, by omega⟩
        · cases h
      · cases h
set_option maxRecDepth 100000 in
set_option maxHeartbeats 32000000 in
theorem parsewords_any (L : List UInt8) (w : World) (hE : EnvC w) (hl : L.length ≤ 15000) :
    Calls Tryz.prog 53 #[.string (txt L)] w fun e w' => SpkT w.heap.size e w' L ∧ Below w.heap.size w w' := by
  have HL := Lib.hid hl
  have HE := Lib.hid hE
  have hzc := zero_ch
  have HB_0 : Hid (Below w.heap.size w (w.alloc (.cells (chA czero (.slice none 0 0) (.slice none 0 0)) 40))) := (Below.refl _ _).alloc (Nat.le_refl _) _
  have HRS_0 : Hid (Box (w.alloc (.cells (chA czero (.slice none 0 0) (.slice none 0 0)) 40)) w.heap.size (chA czero (.slice none 0 0) (.slice none 0 0)) 40) := Box.new _ _ _
  clear hl hE
  go_enter Tryz.func53, Tryz.ntmps53
  go_wp2_with fail
  obtain ⟨w0, hw0⟩ : ∃ X, w.alloc (.cells (chA czero (.slice none 0 0) (.slice none 0 0)) 40) = X := ⟨_, rfl⟩
  rw [hw0] at HB_0 HRS_0 ⊢
  obtain ⟨p0, hp0⟩ : ∃ p, w.heap.size = p := ⟨_, rfl⟩
  rw [hp0] at HRS_0
  (try simp only [hp0])
  have HP : Hid (w.heap.size = p0) := hp0
  have HB_w0 := HB_0
  have HRS_w0 := HRS_0
  clear hw0 hp0 HB_0 HRS_0
  refine (cut_any L 10 w0 (HE.out.below HB_w0.out).env (by have := HL.out; have := HL.out; omega)).mono ?_
  rintro e w1 ⟨rfl, hb⟩
  have HB_w1 : Hid (Below w.heap.size w w1) := HB_w0.out.trans ((hb).mono HB_w0.out.size)
  have HRS_w1 : Hid (Box w1 p0 (chA czero (.slice none 0 0) (.slice none 0 0)) 40) := HRS_w0.out.below (hb)
  clear HB_w0 HRS_w0
  clear hb
  have hl := cut_len L 10
  obtain ⟨⟨U1, U2, ok⟩, hc⟩ : ∃ c, Lib.cut L [10] = c := ⟨_, rfl⟩
  rw [hc] at hl ⊢
  dsimp only at hl ⊢
  have HU : Hid (wU L = (U1, U2, ok)) := hc
  have HU2L : Hid (U1.length ≤ 15000 ∧ U2.length ≤ 15000) := by have := HL.out; have := HL.out; exact ⟨by have := hl.1; omega, by have := hl.2; omega⟩
  clear hc hl
  cases ok
  · skip
    have HNO : Hid (spkC L = none) := spk_no (by rw [HU.out]; simp)
    go_wp2_with (first
      | refine wpList_buildQ rfl 40 _ rfl #[] (by rfl) _ build_ch0 ?_
      | refine wpList_store_row rfl 40 _ _ rfl p0 (chA czero (.slice none 0 0) (.slice none 0 0)) rfl rfl 40 (chA czero (.slice none 0 0) (.slice none 0 0)) HRS_w1.out (info_chA czero _ _ czero_20) rfl (chA_one _ _ _ rfl rfl) ?_)
    refine bodyPost_ret (results_row_tmp Tryz.results53 _ _ p0 40 (chA czero (.slice none 0 0) (.slice none 0 0)) (0, 0) _ rfl (Box.setRow HRS_w1.out) Tryz.underlying40 rfl (info_chA czero _ _ czero_20)) rfl ⟨.inr ⟨HNO.out, czero, (.slice none 0 0), rfl, czero_20, rfl⟩, below_setRow HB_w1.out (Nat.le_of_eq HP.out) _⟩
  · skip
    go_wp2_with fail
    refine (cut_any U2 32 w1 (HE.out.below HB_w1.out).env (by have := HL.out; have := HU2L.out.2; omega)).mono ?_
    rintro e w2 ⟨rfl, hb⟩
    have HB_w2 : Hid (Below w.heap.size w w2) := HB_w1.out.trans ((hb).mono HB_w1.out.size)
    have HRS_w2 : Hid (Box w2 p0 (chA czero (.slice none 0 0) (.slice none 0 0)) 40) := HRS_w1.out.below (hb)
    clear HB_w1 HRS_w1
    clear hb
    have hl := cut_len U2 32
    obtain ⟨⟨T1, T2, ok⟩, hc⟩ : ∃ c, Lib.cut U2 [32] = c := ⟨_, rfl⟩
    rw [hc] at hl ⊢
    dsimp only at hl ⊢
    have HT : Hid (wT L = (T1, T2, ok)) := by show _ = _; unfold wT; rw [HU.out]; exact hc
    have HT2L : Hid (T1.length ≤ 15000 ∧ T2.length ≤ 15000) := by have := HL.out; have := HU2L.out.2; exact ⟨by have := hl.1; omega, by have := hl.2; omega⟩
    clear hc hl
    cases ok
    · skip
      have HNO : Hid (spkC L = none) := spk_no (by rw [HT.out]; simp)
      go_wp2_with (first
        | refine wpList_buildQ rfl 40 _ rfl #[] (by rfl) _ build_ch0 ?_
        | refine wpList_store_row rfl 40 _ _ rfl p0 (chA czero (.slice none 0 0) (.slice none 0 0)) rfl rfl 40 (chA czero (.slice none 0 0) (.slice none 0 0)) HRS_w2.out (info_chA czero _ _ czero_20) rfl (chA_one _ _ _ rfl rfl) ?_)
      refine bodyPost_ret (results_row_tmp Tryz.results53 _ _ p0 40 (chA czero (.slice none 0 0) (.slice none 0 0)) (0, 0) _ rfl (Box.setRow HRS_w2.out) Tryz.underlying40 rfl (info_chA czero _ _ czero_20)) rfl ⟨.inr ⟨HNO.out, czero, (.slice none 0 0), rfl, czero_20, rfl⟩, below_setRow HB_w2.out (Nat.le_of_eq HP.out) _⟩
    · skip
      go_wp2_with fail
      refine (cut_any T2 10 w2 (HE.out.below HB_w2.out).env (by have := HL.out; have := HT2L.out.2; omega)).mono ?_
      rintro e w3 ⟨rfl, hb⟩
      have HB_w3 : Hid (Below w.heap.size w w3) := HB_w2.out.trans ((hb).mono HB_w2.out.size)
      have HRS_w3 : Hid (Box w3 p0 (chA czero (.slice none 0 0) (.slice none 0 0)) 40) := HRS_w2.out.below (hb)
      clear HB_w2 HRS_w2
      clear hb
      have hl := cut_len T2 10
      obtain ⟨⟨Z1, Z2, ok⟩, hc⟩ : ∃ c, Lib.cut T2 [10] = c := ⟨_, rfl⟩
      rw [hc] at hl ⊢
      dsimp only at hl ⊢
      have HZZ : Hid (wZ L = (Z1, Z2, ok)) := by show _ = _; unfold wZ; rw [HT.out]; exact hc
      have HZ2L : Hid (Z1.length ≤ 15000 ∧ Z2.length ≤ 15000) := by have := HL.out; have := HT2L.out.2; exact ⟨by have := hl.1; omega, by have := hl.2; omega⟩
      clear hc hl
      cases ok
      · skip
        have HNO : Hid (spkC L = none) := spk_no (by rw [HZZ.out]; simp)
        go_wp2_with (first
          | refine wpList_buildQ rfl 40 _ rfl #[] (by rfl) _ build_ch0 ?_
          | refine wpList_store_row rfl 40 _ _ rfl p0 (chA czero (.slice none 0 0) (.slice none 0 0)) rfl rfl 40 (chA czero (.slice none 0 0) (.slice none 0 0)) HRS_w3.out (info_chA czero _ _ czero_20) rfl (chA_one _ _ _ rfl rfl) ?_)
        refine bodyPost_ret (results_row_tmp Tryz.results53 _ _ p0 40 (chA czero (.slice none 0 0) (.slice none 0 0)) (0, 0) _ rfl (Box.setRow HRS_w3.out) Tryz.underlying40 rfl (info_chA czero _ _ czero_20)) rfl ⟨.inr ⟨HNO.out, czero, (.slice none 0 0), rfl, czero_20, rfl⟩, below_setRow HB_w3.out (Nat.le_of_eq HP.out) _⟩
      · skip
        have HZ : Hid ((w3.alloc (.cells (chA czero (.slice none 0 0) (.slice none 0 0)) 40)).heap[w3.heap.size]? = some (.cells (chA czero (.slice none 0 0) (.slice none 0 0)) 40 (0, 0))) := heap_alloc_new _ _
        have HS : Hid (Below w3.heap.size w3 ((w3.alloc (.cells (chA czero (.slice none 0 0) (.slice none 0 0)) 40)).setRow w3.heap.size (chA ⟨zeros20, txt U1, 0, 0, [], [], ⟨#[]⟩⟩ (.slice none 0 0) (.slice none 0 0)))) := below_setRow ((Below.refl _ _).alloc (Nat.le_refl _) _) (Nat.le_refl _) _
        have HN : Hid (Box ((w3.alloc (.cells (chA czero (.slice none 0 0) (.slice none 0 0)) 40)).setRow w3.heap.size (chA ⟨zeros20, txt U1, 0, 0, [], [], ⟨#[]⟩⟩ (.slice none 0 0) (.slice none 0 0))) w3.heap.size (chA ⟨zeros20, txt U1, 0, 0, [], [], ⟨#[]⟩⟩ (.slice none 0 0) (.slice none 0 0)) 40) := setRow_heap _ _ _ _ _ _ HZ.out
        go_wp2_with (first
          | refine wpList_buildQ rfl 40 _ rfl #[(1, .string (txt U1))] (map_1u _ _ _ rfl) _ (build_chU _) ?_
          | (refine wpList_store_row rfl 40 _ _ rfl w3.heap.size (chA ⟨zeros20, txt U1, 0, 0, [], [], ⟨#[]⟩⟩ (.slice none 0 0) (.slice none 0 0)) rfl rfl 40 (chA czero (.slice none 0 0) (.slice none 0 0)) HZ.out (info_chA ⟨zeros20, txt U1, 0, 0, [], [], ⟨#[]⟩⟩ _ _ czero_20) rfl (chA_one _ _ _ rfl rfl) ?_
             obtain ⟨w4, hw⟩ : ∃ X, (w3.alloc (.cells (chA czero (.slice none 0 0) (.slice none 0 0)) 40)).setRow w3.heap.size (chA ⟨zeros20, txt U1, 0, 0, [], [], ⟨#[]⟩⟩ (.slice none 0 0) (.slice none 0 0)) = X := ⟨_, rfl⟩
             rw [hw] at HS HN ⊢
             obtain ⟨q, hq⟩ : ∃ q, w3.heap.size = q := ⟨_, rfl⟩
             rw [hq] at HN ⊢
             clear hw HZ
             have HQ : Hid (p0 < q ∧ w.heap.size ≤ q) := by rw [← hq]; exact ⟨HRS_w3.out.lt, HB_w3.out.size⟩
             have HB_w4 : Hid (Below w.heap.size w w4) := HB_w3.out.trans ((HS.out).mono HB_w3.out.size)
             have HRS_w4 : Hid (Box w4 p0 (chA czero (.slice none 0 0) (.slice none 0 0)) 40) := HRS_w3.out.below (HS.out)
             clear HB_w3 HRS_w3
             have HX_w4 : Hid (Box w4 q (chA ⟨zeros20, txt U1, 0, 0, [], [], ⟨#[]⟩⟩ (.slice none 0 0) (.slice none 0 0)) 40) := HN.out
             clear HS HN hq))
        refine (numw_any T1 w4 (HE.out.below HB_w4.out) (by have := HT2L.out.1; omega)).mono ?_
        rintro e w5 ⟨rfl, hb⟩
        have HB_w5 : Hid (Below w.heap.size w w5) := HB_w4.out.trans ((hb).mono HB_w4.out.size)
        have HRS_w5 : Hid (Box w5 p0 (chA czero (.slice none 0 0) (.slice none 0 0)) 40) := HRS_w4.out.below (hb)
        have HX_w5 : Hid (Box w5 q (chA ⟨zeros20, txt U1, 0, 0, [], [], ⟨#[]⟩⟩ (.slice none 0 0) (.slice none 0 0)) 40) := HX_w4.out.below (hb)
        clear HB_w4 HRS_w4 HX_w4
        clear hb
        have hnl := numW_le T1
        obtain ⟨⟨tn, ok⟩, hc⟩ : ∃ c, numW T1 = c := ⟨_, rfl⟩
        rw [hc] at hnl ⊢
        dsimp only at hnl ⊢
        have HTN : Hid (numW T1 = (tn, ok)) := hc
        have HTNL : Hid (-4611686018427387903 ≤ tn ∧ tn ≤ 4611686018427387903) := hnl
        clear hc hnl
        have hcl := (HX_w5.out.ch czero_20).t
        have hfo := frozen_of_row w5 q 21 _ _ HX_w5.out
        have HB_X : Hid (Below w.heap.size w (w5.setCell ⟨q, 21, none⟩ (.int .i64 tn))) := HB_w5.out.setCell (p := ⟨q, 21, none⟩) HQ.out.2 _
        have HRS_X : Hid (Box (w5.setCell ⟨q, 21, none⟩ (.int .i64 tn)) p0 (chA czero (.slice none 0 0) (.slice none 0 0)) 40) := HRS_w5.out.setCell_ne (Nat.ne_of_lt HQ.out.1)
        have HX_X : Hid (Box (w5.setCell ⟨q, 21, none⟩ (.int .i64 tn)) q (chA ⟨zeros20, txt U1, tn, 0, [], [], ⟨#[]⟩⟩ (.slice none 0 0) (.slice none 0 0)) 40) := HX_w5.out.setCell (chA_set ⟨zeros20, txt U1, 0, 0, [], [], ⟨#[]⟩⟩ _ _ czero_20 1 _ _ rfl)
        clear HB_w5 HRS_w5 HX_w5
        cases ok
        · skip
          have HNO : Hid (spkC L = none) := spk_no (by rw [HT.out, show (numW (T1, T2, true).1) = _ from HTN.out]; simp)
          go_wp2_with (first
            | (obtain ⟨w6, hw⟩ : ∃ X, (w5.setCell ⟨q, 21, none⟩ (.int .i64 tn)) = X := ⟨_, rfl⟩
               rw [hw] at HB_X HRS_X HX_X ⊢
               clear hw
               refine wpList_buildQ rfl 40 _ rfl #[] (by rfl) _ build_ch0 ?_)
            | refine wpList_store_row rfl 40 _ _ rfl p0 (chA czero (.slice none 0 0) (.slice none 0 0)) rfl rfl 40 (chA czero (.slice none 0 0) (.slice none 0 0)) HRS_X.out (info_chA czero _ _ czero_20) rfl (chA_one _ _ _ rfl rfl) ?_)
          refine bodyPost_ret (results_row_tmp Tryz.results53 _ _ p0 40 (chA czero (.slice none 0 0) (.slice none 0 0)) (0, 0) _ rfl (Box.setRow HRS_X.out) Tryz.underlying40 rfl (info_chA czero _ _ czero_20)) rfl ⟨.inr ⟨HNO.out, czero, (.slice none 0 0), rfl, czero_20, rfl⟩, below_setRow HB_X.out (Nat.le_of_eq HP.out) _⟩
        · skip
          go_wp2_with fail
          obtain ⟨w6, hw⟩ : ∃ X, (w5.setCell ⟨q, 21, none⟩ (.int .i64 tn)) = X := ⟨_, rfl⟩
          rw [hw] at HB_X HRS_X HX_X ⊢
          have HB_w6 := HB_X
          have HRS_w6 := HRS_X
          have HX_w6 := HX_X
          clear hw hcl hfo HB_X HRS_X HX_X
          refine (numw_any Z1 w6 (HE.out.below HB_w6.out) (by have := HZ2L.out.1; omega)).mono ?_
          rintro e w7 ⟨rfl, hb⟩
          have HB_w7 : Hid (Below w.heap.size w w7) := HB_w6.out.trans ((hb).mono HB_w6.out.size)
          have HRS_w7 : Hid (Box w7 p0 (chA czero (.slice none 0 0) (.slice none 0 0)) 40) := HRS_w6.out.below (hb)
          have HX_w7 : Hid (Box w7 q (chA ⟨zeros20, txt U1, tn, 0, [], [], ⟨#[]⟩⟩ (.slice none 0 0) (.slice none 0 0)) 40) := HX_w6.out.below (hb)
          clear HB_w6 HRS_w6 HX_w6
          clear hb
          have hnl := numW_le Z1
          obtain ⟨⟨zn, ok⟩, hc⟩ : ∃ c, numW Z1 = c := ⟨_, rfl⟩
          rw [hc] at hnl ⊢
          dsimp only at hnl ⊢
          have HZN : Hid (numW Z1 = (zn, ok)) := hc
          have HZNL : Hid (-4611686018427387903 ≤ zn ∧ zn ≤ 4611686018427387903) := hnl
          clear hc hnl
          have hcl := (HX_w7.out.ch czero_20).z
          have hfo := frozen_of_row w7 q 22 _ _ HX_w7.out
          have HB_X : Hid (Below w.heap.size w (w7.setCell ⟨q, 22, none⟩ (.int .i64 zn))) := HB_w7.out.setCell (p := ⟨q, 22, none⟩) HQ.out.2 _
          have HRS_X : Hid (Box (w7.setCell ⟨q, 22, none⟩ (.int .i64 zn)) p0 (chA czero (.slice none 0 0) (.slice none 0 0)) 40) := HRS_w7.out.setCell_ne (Nat.ne_of_lt HQ.out.1)
          have HX_X : Hid (Box (w7.setCell ⟨q, 22, none⟩ (.int .i64 zn)) q (chA ⟨zeros20, txt U1, tn, zn, [], [], ⟨#[]⟩⟩ (.slice none 0 0) (.slice none 0 0)) 40) := HX_w7.out.setCell (chA_set ⟨zeros20, txt U1, tn, 0, [], [], ⟨#[]⟩⟩ _ _ czero_20 2 _ _ rfl)
          clear HB_w7 HRS_w7 HX_w7
          cases ok
          · skip
            have HNO : Hid (spkC L = none) := spk_no (by rw [HZZ.out, show (numW (Z1, Z2, true).1) = _ from HZN.out]; simp)
            go_wp2_with (first
              | (obtain ⟨w8, hw⟩ : ∃ X, (w7.setCell ⟨q, 22, none⟩ (.int .i64 zn)) = X := ⟨_, rfl⟩
                 rw [hw] at HB_X HRS_X HX_X ⊢
                 clear hw
                 refine wpList_buildQ rfl 40 _ rfl #[] (by rfl) _ build_ch0 ?_)
              | refine wpList_store_row rfl 40 _ _ rfl p0 (chA czero (.slice none 0 0) (.slice none 0 0)) rfl rfl 40 (chA czero (.slice none 0 0) (.slice none 0 0)) HRS_X.out (info_chA czero _ _ czero_20) rfl (chA_one _ _ _ rfl rfl) ?_)
            refine bodyPost_ret (results_row_tmp Tryz.results53 _ _ p0 40 (chA czero (.slice none 0 0) (.slice none 0 0)) (0, 0) _ rfl (Box.setRow HRS_X.out) Tryz.underlying40 rfl (info_chA czero _ _ czero_20)) rfl ⟨.inr ⟨HNO.out, czero, (.slice none 0 0), rfl, czero_20, rfl⟩, below_setRow HB_X.out (Nat.le_of_eq HP.out) _⟩
          · skip
            go_wp2_with fail
            obtain ⟨w8, hw⟩ : ∃ X, (w7.setCell ⟨q, 22, none⟩ (.int .i64 zn)) = X := ⟨_, rfl⟩
            rw [hw] at HB_X HRS_X HX_X ⊢
            have HB_w8 := HB_X
            have HRS_w8 := HRS_X
            have HX_w8 := HX_X
            clear hw hcl hfo HB_X HRS_X HX_X
            have HQ8 : Hid (p0 < w8.heap.size ∧ q < w8.heap.size) := ⟨HRS_w8.out.lt, HX_w8.out.lt⟩
            have HSP := Lib.hid (spk_yes (L := L) (by rw [HU.out]) (by rw [HT.out]) (by rw [HZZ.out]) (by rw [HT.out, show (numW (T1, T2, true).1) = _ from HTN.out]) (by rw [HZZ.out, show (numW (Z1, Z2, true).1) = _ from HZN.out]))
            rw [show (wZ L).2.1 = Z2 by rw [HZZ.out]] at HSP
            have hex := exW_len (Z2.length + 1) Z2
            obtain ⟨o, ho⟩ : ∃ o, exW (Z2.length + 1) Z2 = o := ⟨_, rfl⟩
            have htx := texts_any Z2 w8 (HE.out.below HB_w8.out) (by have := HZ2L.out.2; omega)
            rw [ho] at HSP htx hex
            clear ho
            refine (htx).mono ?_
            rintro e w9 ⟨hxt, hb⟩
            have HB_w9 : Hid (Below w.heap.size w w9) := HB_w8.out.trans ((hb).mono HB_w8.out.size)
            have HRS_w9 : Hid (Box w9 p0 (chA czero (.slice none 0 0) (.slice none 0 0)) 40) := HRS_w8.out.below (hb)
            have HX_w9 : Hid (Box w9 q (chA ⟨zeros20, txt U1, tn, zn, [], [], ⟨#[]⟩⟩ (.slice none 0 0) (.slice none 0 0)) 40) := HX_w8.out.below (hb)
            clear HB_w8 HRS_w8 HX_w8
            clear hb
            clear htx
            skip
            have hcl := (HX_w9.out.ch czero_20).xs
            have hfo := frozen_of_row w9 q 23 _ _ HX_w9.out
            cases o with
            | none =>
              obtain rfl := hxt
              have HNO : Hid (spkC L = none) := HSP.out
              clear hex
              have HB_X : Hid (Below w.heap.size w (w9.setCell ⟨q, 23, none⟩ (.slice none 0 0))) := HB_w9.out.setCell (p := ⟨q, 23, none⟩) HQ.out.2 _
              have HRS_X : Hid (Box (w9.setCell ⟨q, 23, none⟩ (.slice none 0 0)) p0 (chA czero (.slice none 0 0) (.slice none 0 0)) 40) := HRS_w9.out.setCell_ne (Nat.ne_of_lt HQ.out.1)
              have HX_X : Hid (Box (w9.setCell ⟨q, 23, none⟩ (.slice none 0 0)) q (chA ⟨zeros20, txt U1, tn, zn, [], [], ⟨#[]⟩⟩ (.slice none 0 0) (.slice none 0 0)) 40) := HX_w9.out.setCell (chA_set ⟨zeros20, txt U1, tn, zn, [], [], ⟨#[]⟩⟩ _ _ czero_20 3 _ _ rfl)
              clear HB_w9 HRS_w9 HX_w9
              go_wp2_with fail
              obtain ⟨wa, hw⟩ : ∃ X, (w9.setCell ⟨q, 23, none⟩ (.slice none 0 0)) = X := ⟨_, rfl⟩
              rw [hw] at HB_X HRS_X HX_X ⊢
              have HB_wa := HB_X
              have HRS_wa := HRS_X
              have HX_wa := HX_X
              clear hw hcl hfo HB_X HRS_X HX_X
              refine wp_region_noPanic ?_
              refine wp_region_held_drew (S := fun W => Box W q (chA ⟨zeros20, txt U1, tn, zn, [], [], ⟨#[]⟩⟩ (.slice none 0 0) (.slice none 0 0)) 40) (by kernel_rfl) ?_ (fun hHeld => ?_)
              · exact HX_wa.out
              refine tkY 0 (hy := (yieldsIf_load_mid (by rfl) 40 _ rfl q 0 rfl (chL ⟨zeros20, txt U1, tn, zn, [], [], ⟨#[]⟩⟩ (.slice none 0 0) (.slice none 0 0)) _ (fun W hSW => Box.range hSW) Tryz.underlying40 rfl (info_ch ⟨zeros20, txt U1, tn, zn, [], [], ⟨#[]⟩⟩ _ _ czero_20))) (h := ?_)
              try simp only [Act.put, List.setIfInBounds_toArray, List.set_cons_zero, List.set_cons_succ]
              refine tkV 1 (v := ?_) (hw := ?_) (h := ?_)
              rotate_left
              · intro W hSW
                go_simp
                try with_reducible rfl
              try simp only [Act.put, List.setIfInBounds_toArray, List.set_cons_zero, List.set_cons_succ]
              refine tkV 2 (v := ?_) (hw := ?_) (h := ?_)
              rotate_left
              · intro W hSW
                go_simp
                try with_reducible rfl
              try simp only [Act.put, List.setIfInBounds_toArray, List.set_cons_zero, List.set_cons_succ]
              refine tkN 3 (h := ?_)
              try simp only [Act.put, List.setIfInBounds_toArray, List.set_cons_zero, List.set_cons_succ]
              refine tkN 4 (h := ?_)
              try simp only [Act.put, List.setIfInBounds_toArray, List.set_cons_zero, List.set_cons_succ]
              refine tkN 5 (h := ?_)
              try simp only [Act.put, List.setIfInBounds_toArray, List.set_cons_zero, List.set_cons_succ]
              refine tkN 6 (h := ?_)
              try simp only [Act.put, List.setIfInBounds_toArray, List.set_cons_zero, List.set_cons_succ]
              refine tkV 7 (v := ?_) (hw := ?_) (h := ?_)
              rotate_left
              · intro W hSW
                go_simp
                try with_reducible rfl
              try simp only [Act.put, List.setIfInBounds_toArray, List.set_cons_zero, List.set_cons_succ]
              refine wpAnyH_ready (rs := [8]) (by kernel_rfl) (by simp) ?_
              refine AllReadyH.cons (by simp only [List.getElem?_toArray, List.getElem?_cons_succ, List.getElem?_cons_zero]; rfl) (fun K hK => ?_) AllReadyH.nil
              refine step_store_row (by rfl) 40 _ _ rfl p0 (chA ⟨zeros20, txt U1, tn, zn, [], [], ⟨#[]⟩⟩ (.slice none 0 0) (.slice none 0 0)) rfl rfl 40 (chA czero (.slice none 0 0) (.slice none 0 0)) HRS_wa.out (info_chA ⟨zeros20, txt U1, tn, zn, [], [], ⟨#[]⟩⟩ _ _ czero_20) rfl (chA_one _ _ _ rfl rfl) ?_
              refine hK.out _ _ (Box.setRow_ne HX_wa.out (Nat.ne_of_gt HQ.out.1)) (fun hHeld2 => ?_)
              clear hK K hHeld
              have hHeld := hHeld2
              clear hHeld2
              try simp only [Act.put, List.setIfInBounds_toArray, List.set_cons_zero, List.set_cons_succ]
              refine tkV 9 (v := ?_) (hw := ?_) (h := ?_)
              rotate_left
              · intro W hSW
                go_simp
                try with_reducible rfl
              try simp only [Act.put, List.setIfInBounds_toArray, List.set_cons_zero, List.set_cons_succ]
              refine wpAnyH_done (by kernel_rfl) ?_ _
              refine NoPanic.normal ?_
              clear hHeld
              go_wp2_with fail
              refine bodyPost_ret (results_row_tmp Tryz.results53 _ _ p0 40 (chA ⟨zeros20, txt U1, tn, zn, [], [], ⟨#[]⟩⟩ (.slice none 0 0) (.slice none 0 0)) (0, 0) _ rfl (Box.setRow HRS_wa.out) Tryz.underlying40 rfl (info_chA ⟨zeros20, txt U1, tn, zn, [], [], ⟨#[]⟩⟩ _ _ czero_20)) rfl ⟨.inr ⟨HNO.out, ⟨zeros20, txt U1, tn, zn, [], [], ⟨#[]⟩⟩, (.slice none 0 0), rfl, czero_20, rfl⟩, below_setRow HB_wa.out.drew (Nat.le_of_eq HP.out) _⟩
            | some xs =>
              obtain ⟨v, rfl, hown⟩ := hxt
              obtain ⟨xa, xc, rfl, hrw⟩ := OwnG.rw hown
              have HRW0 := Lib.hid hrw
              have HEX := Lib.hid (hex xs rfl)
              obtain ⟨xn, hxn⟩ : ∃ n, xs.length = n := ⟨_, rfl⟩
              have HXN := Lib.hid hxn
              rw [hxn]
              clear hex hown hrw hxn
              have HB_X : Hid (Below w.heap.size w (w9.setCell ⟨q, 23, none⟩ (.slice xa xn xc))) := HB_w9.out.setCell (p := ⟨q, 23, none⟩) HQ.out.2 _
              have HRS_X : Hid (Box (w9.setCell ⟨q, 23, none⟩ (.slice xa xn xc)) p0 (chA czero (.slice none 0 0) (.slice none 0 0)) 40) := HRS_w9.out.setCell_ne (Nat.ne_of_lt HQ.out.1)
              have HX_X : Hid (Box (w9.setCell ⟨q, 23, none⟩ (.slice xa xn xc)) q (chA ⟨zeros20, txt U1, tn, zn, xs, [], ⟨#[]⟩⟩ (.slice xa xn xc) (.slice none 0 0)) 40) := HX_w9.out.setCell (chA_set ⟨zeros20, txt U1, tn, zn, [], [], ⟨#[]⟩⟩ _ _ czero_20 3 _ _ rfl)
              clear HB_w9 HRS_w9 HX_w9
              have HRW_X : Hid (Rw w8.heap.size (w9.setCell ⟨q, 23, none⟩ (.slice xa xn xc)) xa xs) := HRW0.out.setCell HQ8.out.2
              go_wp2_with fail
              obtain ⟨wa, hw⟩ : ∃ X, (w9.setCell ⟨q, 23, none⟩ (.slice xa xn xc)) = X := ⟨_, rfl⟩
              rw [hw] at HB_X HRS_X HX_X HRW_X ⊢
              have HB_wa := HB_X
              have HRS_wa := HRS_X
              have HX_wa := HX_X
              clear hw hcl hfo HB_X HRS_X HX_X
              have HRW_wa := HRW_X
              clear HRW_X HRW0
              have HTY : Hid (ChTiny ⟨zeros20, txt U1, tn, zn, xs, [], ⟨#[]⟩⟩) := ⟨by show (txt U1).size ≤ _; rw [txt_size]; have := HU2L.out.1; omega, by show (⟨#[]⟩ : ByteArray).size ≤ _; decide, by show xs.length ≤ _; have := HEX.out.1; have := HZ2L.out.2; omega, Nat.zero_le _, (fun e he => by have := HEX.out.2 e he; have := HZ2L.out.2; exact ⟨by omega, by omega⟩), (fun p hp => by cases hp), by show _ ≤ tn ∧ tn ≤ _; have := HTNL.out; omega, by show _ ≤ zn ∧ zn ≤ _; have := HZNL.out; omega⟩
              have HWD : Hid (∀ W, Box W q (chA ⟨zeros20, txt U1, tn, zn, xs, [], ⟨#[]⟩⟩ (.slice xa xn xc) (.slice none 0 0)) 40 → Below wa.heap.size wa W → Calls Tryz.prog 65 #[.agg (chA ⟨zeros20, txt U1, tn, zn, xs, [], ⟨#[]⟩⟩ (.slice xa xn xc) (.slice none 0 0))] W fun e w' => e = .returned (.string (txt (wordsL ⟨zeros20, txt U1, tn, zn, xs, [], ⟨#[]⟩⟩))) ∧ Below W.heap.size W w') := fun W _ hW => by have h := words_any ⟨zeros20, txt U1, tn, zn, xs, [], ⟨#[]⟩⟩ xa xc (.slice none 0 0) W czero_20 (HRW_wa.out.row.below hW) HTY.out (HE.out.below (HB_wa.out.trans (hW.mono HB_wa.out.size))); rwa [show CX.xs ⟨zeros20, txt U1, tn, zn, xs, [], ⟨#[]⟩⟩ = xs from rfl, HXN.out] at h
              have HSX : Hid (spkX L xs = ⟨zeros20, txt U1, tn, zn, xs, [], ⟨#[]⟩⟩) := by show _ = _; unfold spkX; rw [HU.out, HT.out, HZZ.out]; show CX.mk _ _ (numW T1).1 (numW Z1).1 _ _ _ = _; rw [HTN.out, HZN.out]
              have HSQ : Hid (spkC L = if wordsL ⟨zeros20, txt U1, tn, zn, xs, [], ⟨#[]⟩⟩ = L then some ⟨zeros20, txt U1, tn, zn, xs, [], ⟨#[]⟩⟩ else none) := by show _ = _; rw [HSP.out, HSX.out]
              obtain ⟨WL, hWL⟩ : ∃ l, wordsL ⟨zeros20, txt U1, tn, zn, xs, [], ⟨#[]⟩⟩ = l := ⟨_, rfl⟩
              rw [hWL] at HSQ HWD
              clear hWL HSP HSX
              obtain ⟨bq, hbq⟩ : ∃ b, (WL == L) = b := ⟨_, rfl⟩
              have HEQ : Hid (∀ W, (binOp .eql 9 (.string (txt WL)) (.string (txt L))).run Tryz.prog W = .ok (.bool bq) W) := fun W => by rw [str_eql, txt_list, txt_list, hbq]
              have HBQ := Lib.hid hbq
              clear hbq
              refine wp_region_noPanic ?_
              refine wp_region_held_drew (S := fun W => Box W q (chA ⟨zeros20, txt U1, tn, zn, xs, [], ⟨#[]⟩⟩ (.slice xa xn xc) (.slice none 0 0)) 40) (by kernel_rfl) ?_ (fun hHeld => ?_)
              · exact Box.below HX_wa.out ((Below.refl _ _).drew)
              refine tkY 0 (hy := (yieldsIf_load_mid (by rfl) 40 _ rfl q 0 rfl (chL ⟨zeros20, txt U1, tn, zn, xs, [], ⟨#[]⟩⟩ (.slice xa xn xc) (.slice none 0 0)) _ (fun W hSW => Box.range hSW) Tryz.underlying40 rfl (info_ch ⟨zeros20, txt U1, tn, zn, xs, [], ⟨#[]⟩⟩ _ _ czero_20))) (h := ?_)
              try simp only [Act.put, List.setIfInBounds_toArray, List.set_cons_zero, List.set_cons_succ]
              refine tkV 1 (v := ?_) (hw := ?_) (h := ?_)
              rotate_left
              · intro W hSW
                go_simp
                try with_reducible rfl
              try simp only [Act.put, List.setIfInBounds_toArray, List.set_cons_zero, List.set_cons_succ]
              refine tkV 2 (v := ?_) (hw := ?_) (h := ?_)
              rotate_left
              · intro W hSW
                go_simp
                try with_reducible rfl
              try simp only [Act.put, List.setIfInBounds_toArray, List.set_cons_zero, List.set_cons_succ]
              refine tkY 3 (hy := (yieldsIf_load_mid (by rfl) 40 _ rfl q 0 rfl (chL ⟨zeros20, txt U1, tn, zn, xs, [], ⟨#[]⟩⟩ (.slice xa xn xc) (.slice none 0 0)) _ (fun W hSW => Box.range hSW) Tryz.underlying40 rfl (info_ch ⟨zeros20, txt U1, tn, zn, xs, [], ⟨#[]⟩⟩ _ _ czero_20))) (h := ?_)
              try simp only [Act.put, List.setIfInBounds_toArray, List.set_cons_zero, List.set_cons_succ]
              refine tkV 5 (v := ?_) (hw := ?_) (h := ?_)
              rotate_left
              · intro W hSW
                go_simp
                try with_reducible rfl
              try simp only [Act.put, List.setIfInBounds_toArray, List.set_cons_zero, List.set_cons_succ]
              refine wpAnyH_ready (rs := [4]) (by kernel_rfl) (by simp) ?_
              refine AllReadyH.cons (by simp only [List.getElem?_toArray, List.getElem?_cons_succ, List.getElem?_cons_zero]; rfl) (fun K hK => ?_) AllReadyH.nil
              go_simp
              refine (HWD.out _ (Box.below HX_wa.out ((Below.refl _ _).drew)) ((Below.refl _ _).drew)).mono ?_
              rintro e wb ⟨rfl, hb⟩
              have hbb : Below wa.heap.size wa wb := (Below.refl _ _).drew.trans hb
              have HB_wb := Lib.hid (HB_wa.out.trans (hbb.mono HB_wa.out.size))
              have HRS_wb := Lib.hid (HRS_wa.out.below hbb)
              have HX_wb := Lib.hid (HX_wa.out.below hbb)
              have HRW_wb := Lib.hid (HRW_wa.out.below hbb)
              clear hb hbb
              go_wp2_with fail
              refine hK.out _ _ (HX_wb.out) (fun hHeld2 => ?_)
              clear hK K hHeld
              have hHeld := hHeld2
              clear hHeld2
              try simp only [Act.put, List.setIfInBounds_toArray, List.set_cons_zero, List.set_cons_succ]
              refine tkY 6 (hy := (yieldsIf_eql (by rfl) .eql 9 _ _ _ rfl (.string (txt WL)) (.string (txt L)) rfl rfl (.bool bq) (guard_eq _ _ _ _) HEQ.out)) (h := ?_)
              try simp only [Act.put, List.setIfInBounds_toArray, List.set_cons_zero, List.set_cons_succ]
              refine tkV 7 (v := ?_) (hw := ?_) (h := ?_)
              rotate_left
              · intro W hSW
                go_simp
                try with_reducible rfl
              try simp only [Act.put, List.setIfInBounds_toArray, List.set_cons_zero, List.set_cons_succ]
              refine wpAnyH_ready (rs := [8]) (by kernel_rfl) (by simp) ?_
              refine AllReadyH.cons (by simp only [List.getElem?_toArray, List.getElem?_cons_succ, List.getElem?_cons_zero]; rfl) (fun K hK => ?_) AllReadyH.nil
              refine step_store_row (by rfl) 40 _ _ rfl p0 (chA ⟨zeros20, txt U1, tn, zn, xs, [], ⟨#[]⟩⟩ (.slice xa xn xc) (.slice none 0 0)) rfl rfl 40 (chA czero (.slice none 0 0) (.slice none 0 0)) HRS_wb.out (info_chA ⟨zeros20, txt U1, tn, zn, xs, [], ⟨#[]⟩⟩ _ _ czero_20) rfl (chA_one _ _ _ rfl rfl) ?_
              refine hK.out _ _ (Box.setRow_ne HX_wb.out (Nat.ne_of_gt HQ.out.1)) (fun hHeld2 => ?_)
              clear hK K hHeld
              have hHeld := hHeld2
              clear hHeld2
              try simp only [Act.put, List.setIfInBounds_toArray, List.set_cons_zero, List.set_cons_succ]
              refine tkV 9 (v := ?_) (hw := ?_) (h := ?_)
              rotate_left
              · intro W hSW
                go_simp
                try with_reducible rfl
              try simp only [Act.put, List.setIfInBounds_toArray, List.set_cons_zero, List.set_cons_succ]
              refine wpAnyH_done (by kernel_rfl) ?_ _
              refine NoPanic.normal ?_
              clear hHeld
              go_wp2_with fail
              have HFW : Hid (Rw w.heap.size (wb.setRow p0 (chA ⟨zeros20, txt U1, tn, zn, xs, [], ⟨#[]⟩⟩ (.slice xa xn xc) (.slice none 0 0))) xa xs) := (HRW_wb.out.setRow HQ8.out.1).lower (by have := HQ.out.2; have := HQ8.out.2; omega)
              refine bodyPost_ret (results_row_tmp Tryz.results53 _ _ p0 40 (chA ⟨zeros20, txt U1, tn, zn, xs, [], ⟨#[]⟩⟩ (.slice xa xn xc) (.slice none 0 0)) (0, 0) _ rfl (Box.setRow HRS_wb.out) Tryz.underlying40 rfl (info_chA ⟨zeros20, txt U1, tn, zn, xs, [], ⟨#[]⟩⟩ _ _ czero_20)) rfl ⟨?_, below_setRow HB_wb.out (Nat.le_of_eq HP.out) _⟩
              cases bq
              · exact .inr ⟨by rw [HSQ.out, if_neg (beq_eq_false_iff_ne.1 HBQ.out)], ⟨zeros20, txt U1, tn, zn, xs, [], ⟨#[]⟩⟩, (.slice xa xn xc), rfl, czero_20, rfl⟩
              · exact .inl ⟨⟨zeros20, txt U1, tn, zn, xs, [], ⟨#[]⟩⟩, xa, xc, by rw [HSQ.out, if_pos (beq_iff_eq.1 HBQ.out)], by rw [show CX.xs ⟨zeros20, txt U1, tn, zn, xs, [], ⟨#[]⟩⟩ = xs from rfl, HXN.out] <;> rfl, HFW.out⟩
end Go.Proofs.YtkpiinjhcckhfaaGreatDoor
