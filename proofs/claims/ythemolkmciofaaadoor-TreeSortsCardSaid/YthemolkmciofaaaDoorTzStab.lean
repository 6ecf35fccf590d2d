/- Entries in order, equals as they stood: slices.stableCmpFunc. -/
import Derived.Test.YthemolkmciofaaaDoorTzSym3
import Derived.Test.YthemolkmciofaaaDoorStabE
namespace Go.Proofs.YthemolkmciofaaaDoor
open Go.RowKit Plain Go.ChangeShapes Go.WideShapes Go.ChangeAt Go.Great
set_option linter.unusedVariables false
set_option linter.unusedSimpArgs false
set_option maxRecDepth 100000 in
set_option maxHeartbeats 16000000 in
theorem stable_any (L : List TE) (g n c base : Nat) (w : World) (h : OwnE 30 w base (.slice (some ⟨g, 0, none⟩) n c) (L)) (hn : n ≤ 100000) (hp : ∀ z ∈ L, z.p.size ≤ 100000) (hbase : base ≤ w.heap.size) :
    Calls Tryd.prog 25 #[(.slice (some ⟨g, 0, none⟩) n c), .int .i64 (n : Int), (.func (.func 18) #[] #[])] w fun e w' => e = .returned (.tuple #[]) ∧ OwnE 30 w' base (.slice (some ⟨g, 0, none⟩) n c) (sortS ltT L) ∧ Below base w w' := by
  have H0 := Lib.hid h
  have HNB := Lib.hid hn
  have HPS := Lib.hid hp
  have HBS := Lib.hid hbase
  have HLN : Hid (L.length = n) := h.row.1
  have HSM := Lib.hid (symmerge_any g n c base hn)
  clear h hn hp hbase
  go_enter Tryd.func25, Tryd.ntmps25
  go_wp2_with fail
  go_loopw [7, 8] (fun av bv wr => ∃ (a b : Nat) (P : List TE), av = .int .i64 (a : Int) ∧ bv = .int .i64 (b : Int) ∧ b = a + 20 ∧ a ≤ n ∧ P.length = a ∧ P ++ bs ltT 20 (L.drop a) = bs ltT 20 L ∧ OwnE 30 wr base (.slice (some ⟨g, 0, none⟩) n c) (P ++ L.drop a) ∧ Below base w wr) (fun av _ _ => n - (intOf av).toNat)
  case atStart => exact ⟨0, 20, [], rfl, rfl, rfl, Nat.zero_le _, rfl, rfl, H0.out, Below.refl _ _⟩
  case round =>
    obtain ⟨a, b, P, rfl, rfl, hab, han, hpl, hbs, ho, hbl⟩ := hrel
    have HO := Lib.hid ho
    have HB := Lib.hid hbl
    have HQ := Lib.hid hbs
    have HF : Hid (b = a + 20 ∧ a ≤ n ∧ P.length = a) := ⟨hab, han, hpl⟩
    clear ho hbl hbs hpl
    by_cases hb : b ≤ n
    · have hbi : (b : Int) ≤ (n : Int) := by omega
      have hdl : (L.drop a).length = n - a := by rw [List.length_drop, HLN.out]
      have hd2 : (L.drop a).drop 20 = L.drop b := by rw [List.drop_drop]; congr 1; omega
      have HBN : Hid (b ≤ n) := hb
      have HS : Hid (Calls Tryd.prog 31 #[(.slice (some ⟨g, 0, none⟩) n c), .int .i64 (a : Int), .int .i64 (b : Int), (.func (.func 18) #[] #[])] wr fun e w' => e = .returned (.tuple #[]) ∧ OwnE 30 w' base (.slice (some ⟨g, 0, none⟩) n c) ((P ++ sortS ltT ((L.drop a).take 20)) ++ L.drop b) ∧ Below base w w') := by
        refine (inssort_any P ((L.drop a).take 20) (L.drop b) g n c a b base wr (by rw [← hd2, List.take_append_drop]; exact HO.out) HNB.out HF.out.2.2 (by rw [List.length_take, hdl]; have := HF.out; omega) (fun z hz => HPS.out z (List.mem_of_mem_drop (List.mem_of_mem_take hz))) (Nat.le_trans HBS.out HB.out.size)).mono ?_
        rintro e w' ⟨rfl, ho, hb⟩
        exact ⟨rfl, by rw [List.append_assoc]; exact ho, HB.out.trans hb⟩
      have HL : Hid ((P ++ sortS ltT ((L.drop a).take 20)).length = b) := by rw [List.length_append, sortS_len, List.length_take, hdl]; have := HF.out; show _ = _; omega
      have HE : Hid ((P ++ sortS ltT ((L.drop a).take 20)) ++ bs ltT 20 (L.drop b) = bs ltT 20 L) := by
        show _ = _
        rw [← HQ.out, bs_step 20 (by omega) (L.drop a), hd2, List.append_assoc]
      obtain ⟨b2, hb2⟩ : ∃ b2, b + 20 = b2 := ⟨_, rfl⟩
      have HB2 : Hid (b2 = b + 20) := hb2.symm
      have HW : Hid (wrap64 ((b : Int) + 20) = (b2 : Int)) := by rw [show (b : Int) + 20 = (b2 : Int) by omega]; exact w64 _ (by omega) (by have := HNB.out; omega)
      generalize P ++ sortS ltT ((L.drop a).take 20) = P2 at *
      clear hdl hd2 hab han hb hb2
      have hw := HW.out
      go_wp2_with fail
      refine HS.out.mono ?_
      rintro e w1 ⟨rfl, ho, hb⟩
      have HO1 := Lib.hid ho
      have HB1 := Lib.hid hb
      clear ho hb
      go_wp2_with fail
      exact ⟨⟨b, b2, P2, rfl, by first | rw [HW.out] | rfl, HB2.out, HBN.out, HL.out, HE.out, HO1.out, HB1.out⟩, by have := HF.out; have := HBN.out; clear hw; simp [intOf]; omega⟩
    · have hbi : ¬ (b : Int) ≤ (n : Int) := by omega
      have hbi2 : (n : Int) < (b : Int) := by omega
      have HS : Hid (Calls Tryd.prog 31 #[(.slice (some ⟨g, 0, none⟩) n c), .int .i64 (a : Int), .int .i64 (n : Int), (.func (.func 18) #[] #[])] wr fun e w' => e = .returned (.tuple #[]) ∧ OwnE 30 w' base (.slice (some ⟨g, 0, none⟩) n c) (bs ltT 20 L) ∧ Below base w w') := by
        have hdl : (L.drop a).length = n - a := by rw [List.length_drop, HLN.out]
        refine (inssort_any P (L.drop a) [] g n c a n base wr (by rw [List.append_nil]; exact HO.out) HNB.out HF.out.2.2 (by rw [hdl]; omega) (fun z hz => HPS.out z (List.mem_of_mem_drop hz)) (Nat.le_trans HBS.out HB.out.size)).mono ?_
        rintro e w' ⟨rfl, ho, hb⟩
        refine ⟨rfl, ?_, HB.out.trans hb⟩
        rw [← HQ.out, bs_short 20 (by omega) (L.drop a) (by rw [hdl]; have := HF.out; omega)]
        rw [List.append_nil] at ho
        exact ho
      clear hab han hb HO HQ
      go_wp2_with fail
      refine HS.out.mono ?_
      rintro e w1 ⟨rfl, ho, hb⟩
      have HO1 := Lib.hid ho
      have HB1 := Lib.hid hb
      clear ho hb HB HS
      go_wp2_with fail
      go_loopw [6, 7, 8, 9] (fun sv _ _ _ wr => ∃ s : Nat, sv = .int .i64 (s : Int) ∧ 20 ≤ s ∧ s ≤ 200000 ∧ OwnE 30 wr base (.slice (some ⟨g, 0, none⟩) n c) (bs ltT s L) ∧ Below base w wr) (fun sv _ _ _ _ => n - (intOf sv).toNat)
      case atStart => exact ⟨20, rfl, Nat.le_refl _, by omega, HO1.out, HB1.out⟩
      case round =>
        rename World => wq
        obtain ⟨s, rfl, hs20, hsm, ho, hbl⟩ := hrel
        have HO := Lib.hid ho
        have HB := Lib.hid hbl
        have HS2 : Hid (20 ≤ s ∧ s ≤ 200000) := ⟨hs20, hsm⟩
        clear ho hbl hs20 hsm HO1 HB1 hbi hbi2
        by_cases hsn : s < n
        · have hsi : (s : Int) < (n : Int) := by omega
          obtain ⟨s2, hs2⟩ : ∃ s2, 2 * s = s2 := ⟨_, rfl⟩
          have HT : Hid (s < n ∧ 20 ≤ s ∧ s2 = 2 * s ∧ 0 < s ∧ s2 ≤ 200000) := by have := HS2.out; have := HNB.out; show _ ∧ _ ∧ _ ∧ _ ∧ _; omega
          have HW2 : Hid (wrap64 (2 * (s : Int)) = (s2 : Int)) := by rw [show 2 * (s : Int) = (s2 : Int) by omega]; exact w64 _ (by omega) (by have := HT.out; omega)
          have HW3 : Hid (wrap64 ((s : Int) * 2) = (s2 : Int)) := by rw [show (s : Int) * 2 = (s2 : Int) by omega]; exact w64 _ (by omega) (by have := HT.out; omega)
          clear hsn hs2
          have hw2 := HW2.out
          go_wp2_with fail
          try simp only [HW2.out]
          clear hw2
          go_loopw [7, 8] (fun av bv wr => ∃ (a b : Nat) (P : List TE), av = .int .i64 (a : Int) ∧ bv = .int .i64 (b : Int) ∧ b = a + s2 ∧ a ≤ n ∧ P.length = a ∧ P ++ bs ltT s2 (L.drop a) = bs ltT s2 L ∧ OwnE 30 wr base (.slice (some ⟨g, 0, none⟩) n c) (P ++ bs ltT s (L.drop a)) ∧ Below base w wr) (fun av _ _ => n - (intOf av).toNat)
          case atStart => exact ⟨0, s2, [], rfl, rfl, by omega, Nat.zero_le _, rfl, rfl, HO.out, HB.out⟩
          case round =>
            rename World => wp
            obtain ⟨a, b, P, rfl, rfl, hab, han, hpl, hbs, ho, hbl⟩ := hrel
            have HO3 := Lib.hid ho
            have HB3 := Lib.hid hbl
            have HQ := Lib.hid hbs
            have HF : Hid (b = a + s2 ∧ a ≤ n ∧ P.length = a) := ⟨hab, han, hpl⟩
            have HDL : Hid ((L.drop a).length = n - a) := by show _ = _; rw [List.length_drop, HLN.out]
            have HTWO := Lib.hid (bs_two ltT_swo s HT.out.2.2.2.1 (L.drop a))
            obtain ⟨m, hm⟩ : ∃ m, a + s = m := ⟨_, rfl⟩
            have HM : Hid (m = a + s) := hm.symm
            have HWM := Lib.hid (add_nat a s m hm (by have := HF.out; have := HT.out; have := HNB.out; omega))
            clear ho hbl hbs hpl HO HB hm
            by_cases hb : b ≤ n
            · have hbi : (b : Int) ≤ (n : Int) := by omega
              have hd2 : (L.drop a).drop (2 * s) = L.drop b := by rw [List.drop_drop]; congr 1; have := HT.out; omega
              have HBN : Hid (b ≤ n) := hb
              have l1 : ((L.drop a).take s).length = s := by rw [List.length_take, HDL.out]; have := HT.out; omega
              have l2 : (((L.drop a).drop s).take s).length = s := by rw [List.length_take, List.length_drop, HDL.out]; have := HT.out; omega
              have HS : Hid (Calls Tryd.prog 32 #[(.slice (some ⟨g, 0, none⟩) n c), .int .i64 (a : Int), .int .i64 (m : Int), .int .i64 (b : Int), (.func (.func 18) #[] #[])] wp fun e w' => e = .returned (.tuple #[]) ∧ OwnE 30 w' base (.slice (some ⟨g, 0, none⟩) n c) ((P ++ sortS ltT ((L.drop a).take (2 * s))) ++ bs ltT s (L.drop b)) ∧ Below base w w') := by
                refine (HSM.out (b + 1 - a) P (sortS ltT ((L.drop a).take s)) (sortS ltT (((L.drop a).drop s).take s)) (bs ltT s (L.drop b)) a m b wp (by have := HF.out; omega) (by rw [← hd2, ← HTWO.out.1]; exact HO3.out) HF.out.2.2 (by rw [sortS_len, l1]; exact HM.out.symm) (by rw [sortS_len, l2]; have := HM.out; have := HF.out; have := HT.out; omega) (by rw [sortS_len, l1]; exact HT.out.2.2.2.1) (by rw [sortS_len, l2]; exact HT.out.2.2.2.1) (sortS_sorted ltT_swo _ _ rfl) (sortS_sorted ltT_swo _ _ rfl) (fun z hz => by
                  rcases List.mem_append.1 hz with h1 | h1
                  · exact HPS.out z (List.mem_of_mem_drop (List.mem_of_mem_take ((sortS_perm _ _ rfl).mem_iff.1 h1)))
                  · exact HPS.out z (List.mem_of_mem_drop (List.mem_of_mem_drop (List.mem_of_mem_take ((sortS_perm _ _ rfl).mem_iff.1 h1))))) (Nat.le_trans HBS.out HB3.out.size)).mono ?_
                rintro e w' ⟨rfl, ho, hb⟩
                exact ⟨rfl, by rw [List.append_assoc, ← HTWO.out.2]; exact ho, HB3.out.trans hb⟩
              have HL : Hid ((P ++ sortS ltT ((L.drop a).take (2 * s))).length = b) := by rw [List.length_append, sortS_len, List.length_take, HDL.out]; have := HF.out; have := HT.out; show _ = _; omega
              have HE : Hid ((P ++ sortS ltT ((L.drop a).take (2 * s))) ++ bs ltT s2 (L.drop b) = bs ltT s2 L) := by
                show _ = _
                rw [← HQ.out, bs_step s2 (by have := HT.out; omega) (L.drop a), HT.out.2.2.1, hd2, List.append_assoc]
              obtain ⟨b2, hb2⟩ : ∃ b2, b + s2 = b2 := ⟨_, rfl⟩
              have HB2 : Hid (b2 = b + s2) := hb2.symm
              have HW := Lib.hid (add_nat b s2 b2 hb2 (by have := HT.out; have := HNB.out; omega))
              generalize P ++ sortS ltT ((L.drop a).take (2 * s)) = P2 at *
              clear hd2 hab han hb hb2 l1 l2
              have hw := HW.out
              have hw2 := HW2.out
              have hwm := HWM.out
              go_wp2_with fail
              refine HS.out.mono ?_
              rintro e w1 ⟨rfl, ho, hb⟩
              have HO4 := Lib.hid ho
              have HB4 := Lib.hid hb
              clear ho hb
              go_wp2_with fail
              exact ⟨⟨b, b2, P2, rfl, by first | rw [HW2.out, HW.out] | rw [HW.out] | rfl, HB2.out, HBN.out, HL.out, HE.out, HO4.out, HB4.out⟩, by have := HF.out; have := HBN.out; have := HT.out; clear hw hw2 hwm; simp [intOf]; omega⟩
            · have hbi : ¬ (b : Int) ≤ (n : Int) := by omega
              have hbi2 : (n : Int) < (b : Int) := by omega
              have l1 : ((L.drop a).drop (2 * s)).length = 0 := by rw [List.length_drop, HDL.out]; have := HT.out; omega
              by_cases hmn : m < n
              · have hmi : (m : Int) < (n : Int) := by omega
                have l2 : ((L.drop a).take s).length = s := by rw [List.length_take, HDL.out]; have := HM.out; omega
                have l3 : (((L.drop a).drop s).take s).length = n - m := by rw [List.length_take, List.length_drop, HDL.out]; have := HM.out; have := HT.out; omega
                have HS : Hid (Calls Tryd.prog 32 #[(.slice (some ⟨g, 0, none⟩) n c), .int .i64 (a : Int), .int .i64 (m : Int), .int .i64 (n : Int), (.func (.func 18) #[] #[])] wp fun e w' => e = .returned (.tuple #[]) ∧ OwnE 30 w' base (.slice (some ⟨g, 0, none⟩) n c) (bs ltT s2 L) ∧ Below base w w') := by
                  refine (HSM.out (n + 1 - a) P (sortS ltT ((L.drop a).take s)) (sortS ltT (((L.drop a).drop s).take s)) [] a m n wp (by have := HF.out; omega) (by have h := HO3.out; rw [HTWO.out.1, List.length_eq_zero_iff.1 l1] at h; exact h) HF.out.2.2 (by rw [sortS_len, l2]; exact HM.out.symm) (by rw [sortS_len, l3]; omega) (by rw [sortS_len, l2]; exact HT.out.2.2.2.1) (by rw [sortS_len, l3]; omega) (sortS_sorted ltT_swo _ _ rfl) (sortS_sorted ltT_swo _ _ rfl) (fun z hz => by
                    rcases List.mem_append.1 hz with h1 | h1
                    · exact HPS.out z (List.mem_of_mem_drop (List.mem_of_mem_take ((sortS_perm _ _ rfl).mem_iff.1 h1)))
                    · exact HPS.out z (List.mem_of_mem_drop (List.mem_of_mem_drop (List.mem_of_mem_take ((sortS_perm _ _ rfl).mem_iff.1 h1))))) (Nat.le_trans HBS.out HB3.out.size)).mono ?_
                  rintro e w' ⟨rfl, ho, hb⟩
                  refine ⟨rfl, ?_, HB3.out.trans hb⟩
                  rw [HTWO.out.2, List.append_nil, List.take_of_length_le (by rw [HDL.out]; have := HT.out; omega)] at ho
                  rw [← HQ.out, bs_short s2 (by have := HT.out; omega) (L.drop a) (by rw [HDL.out]; omega)]
                  exact ho
                clear l1 l2 l3 hab han hb hmn HO3 HQ HTWO
                have hwm := HWM.out
                have hw3 := HW3.out
                go_wp2_with fail
                refine HS.out.mono ?_
                rintro e w1 ⟨rfl, ho, hb⟩
                have HO4 := Lib.hid ho
                have HB4 := Lib.hid hb
                clear ho hb
                go_wp2_with fail
                exact ⟨⟨s2, by first | rw [HW3.out] | rfl, by have := HT.out; omega, HT.out.2.2.2.2, HO4.out, HB4.out⟩, by have := HT.out; clear hwm hw3; (first | rw [HW3.out] | skip); simp [intOf]; omega⟩
              · have hmi : ¬ (m : Int) < (n : Int) := by omega
                have HO4 : Hid (OwnE 30 wp base (.slice (some ⟨g, 0, none⟩) n c) (bs ltT s2 L)) := by
                  have h := HO3.out
                  rw [bs_short s HT.out.2.2.2.1 (L.drop a) (by rw [HDL.out]; have := HM.out; omega)] at h
                  rw [← HQ.out, bs_short s2 (by have := HT.out; omega) (L.drop a) (by rw [HDL.out]; omega)]
                  exact h
                clear l1 hab han hb hmn HO3 HQ HTWO
                have hwm := HWM.out
                have hw3 := HW3.out
                go_wp2_with fail
                exact ⟨⟨s2, by first | rw [HW3.out] | rfl, by have := HT.out; omega, HT.out.2.2.2.2, HO4.out, HB3.out⟩, by have := HT.out; clear hwm hw3; (first | rw [HW3.out] | skip); simp [intOf]; omega⟩
        · have hsi : ¬ (s : Int) < (n : Int) := by omega
          have HO4 : Hid (OwnE 30 wq base (.slice (some ⟨g, 0, none⟩) n c) (sortS ltT L)) := by
            have h := HO.out
            rw [bs_short s (by have := HS2.out; omega) L (by rw [HLN.out]; omega)] at h
            exact h
          clear hsn
          go_wp2_with fail
          refine bodyPost_end (results_none rfl _ _ _) rfl ?_
          exact ⟨rfl, HO4.out, HB.out⟩
end Go.Proofs.YthemolkmciofaaaDoor
