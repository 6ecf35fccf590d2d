/- Merging where the first part is one element: slices.symMergeCmpFunc. -/
import Derived.Test.YthemolkmciofaaaDoorTzIns
import Derived.Test.YthemolkmciofaaaDoorStabD
namespace Go.Proofs.YthemolkmciofaaaDoor
open Go.RowKit Plain Go.ChangeShapes Go.WideShapes Go.ChangeAt Go.Great
set_option linter.unusedVariables false
set_option linter.unusedSimpArgs false
theorem half_add (i j s : Nat) (h : i + j = s) (hb : s ≤ 1000000) : wrap64 ((i : Int) + (j : Int)) = (s : Int) := by
  rw [show (i : Int) + (j : Int) = (s : Int) by omega]
  exact w64 _ (by omega) (by omega)
theorem half_u64 (s : Nat) (hb : s ≤ 1000000) : IntKind.u64.wrap (s : Int) = (s : Int) := by rw [IntKind.wrap_u64]; omega
theorem half_div (s h : Nat) (hh : s / 2 = h) : (s : Int) / 2 = (h : Int) := by omega
theorem half_i64 (h : Nat) (hb : h ≤ 1000000) : wrap64 (h : Int) = (h : Int) := w64 _ (by omega) (by omega)
set_option maxRecDepth 100000 in
set_option maxHeartbeats 16000000 in
theorem sym_left (A Y C : List TE) (x : TE) (g n c a m b base : Nat) (w : World) (h : OwnE 30 w base (.slice (some ⟨g, 0, none⟩) n c) (A ++ ([x] ++ (Y ++ C)))) (hn : n ≤ 100000) (ha : A.length = a) (hm : a + 1 = m) (hb : m + Y.length = b) (hY : Srt ltT Y) (hp : ∀ z ∈ x :: Y, z.p.size ≤ 100000) (hbase : base ≤ w.heap.size) :
    Calls Tryd.prog 32 #[(.slice (some ⟨g, 0, none⟩) n c), .int .i64 (a : Int), .int .i64 (m : Int), .int .i64 (b : Int), (.func (.func 18) #[] #[])] w fun e w' => e = .returned (.tuple #[]) ∧ OwnE 30 w' base (.slice (some ⟨g, 0, none⟩) n c) (A ++ (mrg ltT [x] Y ++ C)) ∧ Below base w w' := by
  have H0 := Lib.hid h
  have HNB := Lib.hid hn
  have HA := Lib.hid ha
  have HM := Lib.hid hm
  have HBL := Lib.hid hb
  have HPS := Lib.hid hp
  have HBS := Lib.hid hbase
  have HLN : Hid (b ≤ n) := by have := h.row.1; simp only [List.length_append, List.length_cons, List.length_nil] at this; show _ ≤ _; omega
  have HY := Lib.hid hY
  have Hxp : Hid (x.p.size ≤ 100000) := hp x (by simp)
  have HPX : Hid ((A ++ ([x] ++ (Y ++ C)))[a]? = some x) := by
    have := at_x A [x] (Y ++ C) 0 (by simp)
    rw [Nat.add_zero, ha] at this
    exact this
  have HW0 : Hid (wrap64 ((m : Int) - (a : Int)) = 1) := by rw [show (m : Int) - (a : Int) = 1 by omega]; exact w64 _ (by omega) (by omega)
  have han : (a : Int) < (n : Int) := by have := HLN.out; omega
  have ha0 : (0 : Int) ≤ (a : Int) := Int.natCast_nonneg a
  clear h hn ha hm hb hp hbase hY
  have hw0 := HW0.out
  go_enter Tryd.func32, Tryd.ntmps32
  go_wp2_with fail
  clear hw0
  go_loopw [10, 11, 12] (fun iv jv hv wr => ∃ i j : Nat, iv = .int .i64 (i : Int) ∧ jv = .int .i64 (j : Int) ∧ m ≤ i ∧ i ≤ j ∧ j ≤ b ∧ (∀ y, m < i → (A ++ ([x] ++ (Y ++ C)))[i - 1]? = some y → ltT y x = true) ∧ (∀ y, j < b → (A ++ ([x] ++ (Y ++ C)))[j]? = some y → ltT y x = false) ∧ OwnE 30 wr base (.slice (some ⟨g, 0, none⟩) n c) (A ++ ([x] ++ (Y ++ C))) ∧ Below base w wr) (fun iv jv _ _ => (intOf jv).toNat - (intOf iv).toNat)
  case atStart => exact ⟨m, b, rfl, rfl, Nat.le_refl _, by have := HBL.out; omega, Nat.le_refl _, fun y h => absurd h (by omega), fun y h => absurd h (by omega), H0.out, Below.refl _ _⟩
  case round =>
    obtain ⟨i, j, rfl, rfl, hmi, hij, hjb, hlo, hhi, ho, hbl⟩ := hrel
    have HO := Lib.hid ho
    have HB := Lib.hid hbl
    have HLO := Lib.hid hlo
    have HHI := Lib.hid hhi
    clear ho hbl hlo hhi
    by_cases hlt : i < j
    · have hlti : (i : Int) < (j : Int) := by omega
      obtain ⟨s, hs⟩ : ∃ s, i + j = s := ⟨_, rfl⟩
      obtain ⟨q, hq⟩ : ∃ q, s / 2 = q := ⟨_, rfl⟩
      have HS : Hid (i ≤ q ∧ q < j ∧ s ≤ 1000000 ∧ m ≤ q ∧ q < b ∧ q < n ∧ i < j ∧ j ≤ b ∧ m ≤ i) := by have := HLN.out; have := HNB.out; show _ ∧ _ ∧ _ ∧ _ ∧ _ ∧ _ ∧ _ ∧ _ ∧ _; omega
      have HH1 := Lib.hid (half_add i j s hs HS.out.2.2.1)
      have HH2 := Lib.hid (half_u64 s HS.out.2.2.1)
      have HH3 := Lib.hid (half_div s q hq)
      have HH4 := Lib.hid (half_i64 q (by have := HS.out; omega))
      have hqn : (q : Int) < (n : Int) := by have := HS.out; omega
      have hq0 : (0 : Int) ≤ (q : Int) := Int.natCast_nonneg q
      have HWQ := Lib.hid (next_int q (by have := HS.out; have := HNB.out; omega))
      obtain ⟨y, hy⟩ : ∃ y, Y[q - m]? = some y := ⟨_, List.getElem?_eq_getElem (by have := HS.out; have := HBL.out; omega)⟩
      have HQY : Hid ((A ++ ([x] ++ (Y ++ C)))[q]? = some y) := by
        have e := at_y A [x] Y C (q - m) (List.getElem?_eq_some_iff.1 hy).1
        rw [show A.length + [x].length + (q - m) = q by have := HA.out; have := HM.out; have := HS.out; simp only [List.length_singleton]; omega] at e
        exact e.trans hy
      have Hyp : Hid (y.p.size ≤ 100000) := HPS.out y (List.mem_cons_of_mem _ (List.mem_of_getElem? hy))
      have HOD : Hid (OwnE 30 wr.drew base (.slice (some ⟨g, 0, none⟩) n c) (A ++ ([x] ++ (Y ++ C)))) := HO.out.below (Below.refl _ _).drew
      have Hy : Hid (y.n.length = 20) := HOD.out.2 y (List.mem_of_getElem? HQY.out)
      have Hx : Hid (x.n.length = 20) := HOD.out.2 x (List.mem_of_getElem? HPX.out)
      have HRy : Hid (wr.drew.rangeAt g (q * 22) (entL y)) := HOD.out.row.2.2.2.1 q y HQY.out
      have HRx : Hid (wr.drew.rangeAt g (a * 22) (entL x)) := HOD.out.row.2.2.2.1 a x HPX.out
      have HBG : Hid (base ≤ g ∧ g < wr.drew.heap.size) := ⟨HOD.out.row.2.1, HOD.out.row.2.2.1⟩
      clear hy hs hq hlt hmi hij hjb
      cases hl : ltT y x
      · have hcl : ¬ Lib.compareBytes (keyT y) (keyT x) < 0 := of_decide_eq_false hl
        have HL := Lib.hid hl
        clear hl
        have hh1 := HH1.out
        have hh2 := HH2.out
        have hh3 := HH3.out
        have hh4 := HH4.out
        go_wp2_with fail
        refine wp_region_noPanic ?_
        refine wp_region_held_drew (S := fun W => W.rangeAt g (q * 22) (entL y) ∧ W.rangeAt g (a * 22) (entL x)) (by kernel_rfl) ?_ (fun hHeld => ?_)
        · exact ⟨HRy.out, HRx.out⟩
        refine wpAnyH_take (i := 0) (v := ?_) (by simp only [List.getElem?_toArray, List.getElem?_cons_zero]; rfl) (by kernel_rfl) (by kernel_rfl) (by kernel_rfl) (fun _ _ _ h => h) (Or.inl ⟨by rfl, ?_⟩) (by assumption) ?_
        rotate_left
        · intro W hSW
          go_simp
          try with_reducible rfl
        try simp only [Act.put, List.setIfInBounds_toArray, List.set_cons_zero, List.set_cons_succ]
        refine wpAnyH_take (i := 1) (v := ?_) (by simp only [List.getElem?_toArray, List.getElem?_cons_succ, List.getElem?_cons_zero]; rfl) (by kernel_rfl) (by kernel_rfl) (by kernel_rfl) (fun _ _ _ h => h) (Or.inl ⟨by rfl, ?_⟩) (by assumption) ?_
        rotate_left
        · intro W hSW
          go_simp
          try with_reducible rfl
        try simp only [Act.put, List.setIfInBounds_toArray, List.set_cons_zero, List.set_cons_succ]
        refine wpAnyH_take (i := 2) (v := ?_) (by simp only [List.getElem?_toArray, List.getElem?_cons_succ, List.getElem?_cons_zero]; rfl) (by kernel_rfl) (by kernel_rfl) (by kernel_rfl) (fun _ _ _ h => h) (Or.inl ⟨by rfl, ?_⟩) (by assumption) ?_
        rotate_left
        · intro W hSW
          go_simp
          try with_reducible rfl
        try simp only [Act.put, List.setIfInBounds_toArray, List.set_cons_zero, List.set_cons_succ]
        refine wpAnyH_take (i := 3) (v := ?_) (by simp only [List.getElem?_toArray, List.getElem?_cons_succ, List.getElem?_cons_zero]; rfl) (by kernel_rfl) (by kernel_rfl) (by kernel_rfl) (fun _ _ _ h => h) (Or.inl ⟨by rfl, ?_⟩) (by assumption) ?_
        rotate_left
        · intro W hSW
          go_simp
          try with_reducible rfl
        try simp only [Act.put, List.setIfInBounds_toArray, List.set_cons_zero, List.set_cons_succ]
        refine wpAnyH_take (i := 4) (by simp only [List.getElem?_toArray, List.getElem?_cons_succ, List.getElem?_cons_zero]; rfl) (by kernel_rfl) (by kernel_rfl) (by kernel_rfl) (fun _ _ _ h => h) (yieldsIf_load_mid (by rfl) 30 _ rfl g (q * 22) rfl (entL y) _ (fun W h => h.1) Tryd.underlying30 rfl (ent_infoL y Hy.out)) (by assumption) ?_
        try simp only [Act.put, List.setIfInBounds_toArray, List.set_cons_zero, List.set_cons_succ]
        refine wpAnyH_take (i := 5) (v := ?_) (by simp only [List.getElem?_toArray, List.getElem?_cons_succ, List.getElem?_cons_zero]; rfl) (by kernel_rfl) (by kernel_rfl) (by kernel_rfl) (fun _ _ _ h => h) (Or.inl ⟨by rfl, ?_⟩) (by assumption) ?_
        rotate_left
        · intro W hSW
          go_simp
          try with_reducible rfl
        try simp only [Act.put, List.setIfInBounds_toArray, List.set_cons_zero, List.set_cons_succ]
        refine wpAnyH_take (i := 6) (v := ?_) (by simp only [List.getElem?_toArray, List.getElem?_cons_succ, List.getElem?_cons_zero]; rfl) (by kernel_rfl) (by kernel_rfl) (by kernel_rfl) (fun _ _ _ h => h) (Or.inl ⟨by rfl, ?_⟩) (by assumption) ?_
        rotate_left
        · intro W hSW
          go_simp
          try with_reducible rfl
        try simp only [Act.put, List.setIfInBounds_toArray, List.set_cons_zero, List.set_cons_succ]
        refine wpAnyH_take (i := 7) (v := ?_) (by simp only [List.getElem?_toArray, List.getElem?_cons_succ, List.getElem?_cons_zero]; rfl) (by kernel_rfl) (by kernel_rfl) (by kernel_rfl) (fun _ _ _ h => h) (Or.inl ⟨by rfl, ?_⟩) (by assumption) ?_
        rotate_left
        · intro W hSW
          go_simp
          try with_reducible rfl
        try simp only [Act.put, List.setIfInBounds_toArray, List.set_cons_zero, List.set_cons_succ]
        refine wpAnyH_take (i := 8) (by simp only [List.getElem?_toArray, List.getElem?_cons_succ, List.getElem?_cons_zero]; rfl) (by kernel_rfl) (by kernel_rfl) (by kernel_rfl) (fun _ _ _ h => h) (yieldsIf_load_mid (by rfl) 30 _ rfl g (a * 22) rfl (entL x) _ (fun W h => h.2) Tryd.underlying30 rfl (ent_infoL x Hx.out)) (by assumption) ?_
        try simp only [Act.put, List.setIfInBounds_toArray, List.set_cons_zero, List.set_cons_succ]
        refine wpAnyH_ready (rs := [9]) (by kernel_rfl) (by simp) ?_
        refine AllReadyH.cons (by simp only [List.getElem?_toArray, List.getElem?_cons_succ, List.getElem?_cons_zero]; rfl) (fun K hK => ?_) AllReadyH.nil
        go_simp
        refine (compare_any y x Hy.out Hyp.out Hx.out Hxp.out _).mono ?_
        rintro e v1 ⟨rfl, hb⟩
        have HFV := Lib.hid hb
        have HOV := Lib.hid (HOD.out.below hb)
        clear hb
        go_wp2_with fail
        refine hK.out _ _ (⟨HOV.out.row.2.2.2.1 q y HQY.out, HOV.out.row.2.2.2.1 a x HPX.out⟩) (fun hHeld2 => ?_)
        clear hK K hHeld
        have hHeld := hHeld2
        clear hHeld2
        try simp only [Act.put, List.setIfInBounds_toArray, List.set_cons_zero, List.set_cons_succ]
        refine wpAnyH_take (i := 10) (v := ?_) (by simp only [List.getElem?_toArray, List.getElem?_cons_succ, List.getElem?_cons_zero]; rfl) (by kernel_rfl) (by kernel_rfl) (by kernel_rfl) (fun _ _ _ h => h) (Or.inl ⟨by rfl, ?_⟩) (by assumption) ?_
        rotate_left
        · intro W hSW
          go_simp
          try with_reducible rfl
        try simp only [Act.put, List.setIfInBounds_toArray, List.set_cons_zero, List.set_cons_succ]
        refine wpAnyH_done (by kernel_rfl) ?_ _
        refine NoPanic.normal ?_
        clear hHeld hh1 hh2 hh3 hh4
        have HBV := Lib.hid (HB.out.drew.trans (HFV.out.mono (Nat.le_trans HBG.out.1 (Nat.le_of_lt HBG.out.2))))
        go_wp2_with fail
        exact ⟨⟨i, q, rfl, rfl, HS.out.2.2.2.2.2.2.2.2, HS.out.1, Nat.le_of_lt HS.out.2.2.2.2.1, HLO.out, (fun z _ hz => by rw [HQY.out] at hz; cases hz; exact HL.out), HOV.out, HBV.out⟩, by have := HS.out; simp [intOf]; omega⟩
      · have hcl : Lib.compareBytes (keyT y) (keyT x) < 0 := of_decide_eq_true hl
        have HL := Lib.hid hl
        clear hl
        have hh1 := HH1.out
        have hh2 := HH2.out
        have hh3 := HH3.out
        have hh4 := HH4.out
        go_wp2_with fail
        refine wp_region_noPanic ?_
        refine wp_region_held_drew (S := fun W => W.rangeAt g (q * 22) (entL y) ∧ W.rangeAt g (a * 22) (entL x)) (by kernel_rfl) ?_ (fun hHeld => ?_)
        · exact ⟨HRy.out, HRx.out⟩
        refine wpAnyH_take (i := 0) (v := ?_) (by simp only [List.getElem?_toArray, List.getElem?_cons_zero]; rfl) (by kernel_rfl) (by kernel_rfl) (by kernel_rfl) (fun _ _ _ h => h) (Or.inl ⟨by rfl, ?_⟩) (by assumption) ?_
        rotate_left
        · intro W hSW
          go_simp
          try with_reducible rfl
        try simp only [Act.put, List.setIfInBounds_toArray, List.set_cons_zero, List.set_cons_succ]
        refine wpAnyH_take (i := 1) (v := ?_) (by simp only [List.getElem?_toArray, List.getElem?_cons_succ, List.getElem?_cons_zero]; rfl) (by kernel_rfl) (by kernel_rfl) (by kernel_rfl) (fun _ _ _ h => h) (Or.inl ⟨by rfl, ?_⟩) (by assumption) ?_
        rotate_left
        · intro W hSW
          go_simp
          try with_reducible rfl
        try simp only [Act.put, List.setIfInBounds_toArray, List.set_cons_zero, List.set_cons_succ]
        refine wpAnyH_take (i := 2) (v := ?_) (by simp only [List.getElem?_toArray, List.getElem?_cons_succ, List.getElem?_cons_zero]; rfl) (by kernel_rfl) (by kernel_rfl) (by kernel_rfl) (fun _ _ _ h => h) (Or.inl ⟨by rfl, ?_⟩) (by assumption) ?_
        rotate_left
        · intro W hSW
          go_simp
          try with_reducible rfl
        try simp only [Act.put, List.setIfInBounds_toArray, List.set_cons_zero, List.set_cons_succ]
        refine wpAnyH_take (i := 3) (v := ?_) (by simp only [List.getElem?_toArray, List.getElem?_cons_succ, List.getElem?_cons_zero]; rfl) (by kernel_rfl) (by kernel_rfl) (by kernel_rfl) (fun _ _ _ h => h) (Or.inl ⟨by rfl, ?_⟩) (by assumption) ?_
        rotate_left
        · intro W hSW
          go_simp
          try with_reducible rfl
        try simp only [Act.put, List.setIfInBounds_toArray, List.set_cons_zero, List.set_cons_succ]
        refine wpAnyH_take (i := 4) (by simp only [List.getElem?_toArray, List.getElem?_cons_succ, List.getElem?_cons_zero]; rfl) (by kernel_rfl) (by kernel_rfl) (by kernel_rfl) (fun _ _ _ h => h) (yieldsIf_load_mid (by rfl) 30 _ rfl g (q * 22) rfl (entL y) _ (fun W h => h.1) Tryd.underlying30 rfl (ent_infoL y Hy.out)) (by assumption) ?_
        try simp only [Act.put, List.setIfInBounds_toArray, List.set_cons_zero, List.set_cons_succ]
        refine wpAnyH_take (i := 5) (v := ?_) (by simp only [List.getElem?_toArray, List.getElem?_cons_succ, List.getElem?_cons_zero]; rfl) (by kernel_rfl) (by kernel_rfl) (by kernel_rfl) (fun _ _ _ h => h) (Or.inl ⟨by rfl, ?_⟩) (by assumption) ?_
        rotate_left
        · intro W hSW
          go_simp
          try with_reducible rfl
        try simp only [Act.put, List.setIfInBounds_toArray, List.set_cons_zero, List.set_cons_succ]
        refine wpAnyH_take (i := 6) (v := ?_) (by simp only [List.getElem?_toArray, List.getElem?_cons_succ, List.getElem?_cons_zero]; rfl) (by kernel_rfl) (by kernel_rfl) (by kernel_rfl) (fun _ _ _ h => h) (Or.inl ⟨by rfl, ?_⟩) (by assumption) ?_
        rotate_left
        · intro W hSW
          go_simp
          try with_reducible rfl
        try simp only [Act.put, List.setIfInBounds_toArray, List.set_cons_zero, List.set_cons_succ]
        refine wpAnyH_take (i := 7) (v := ?_) (by simp only [List.getElem?_toArray, List.getElem?_cons_succ, List.getElem?_cons_zero]; rfl) (by kernel_rfl) (by kernel_rfl) (by kernel_rfl) (fun _ _ _ h => h) (Or.inl ⟨by rfl, ?_⟩) (by assumption) ?_
        rotate_left
        · intro W hSW
          go_simp
          try with_reducible rfl
        try simp only [Act.put, List.setIfInBounds_toArray, List.set_cons_zero, List.set_cons_succ]
        refine wpAnyH_take (i := 8) (by simp only [List.getElem?_toArray, List.getElem?_cons_succ, List.getElem?_cons_zero]; rfl) (by kernel_rfl) (by kernel_rfl) (by kernel_rfl) (fun _ _ _ h => h) (yieldsIf_load_mid (by rfl) 30 _ rfl g (a * 22) rfl (entL x) _ (fun W h => h.2) Tryd.underlying30 rfl (ent_infoL x Hx.out)) (by assumption) ?_
        try simp only [Act.put, List.setIfInBounds_toArray, List.set_cons_zero, List.set_cons_succ]
        refine wpAnyH_ready (rs := [9]) (by kernel_rfl) (by simp) ?_
        refine AllReadyH.cons (by simp only [List.getElem?_toArray, List.getElem?_cons_succ, List.getElem?_cons_zero]; rfl) (fun K hK => ?_) AllReadyH.nil
        go_simp
        refine (compare_any y x Hy.out Hyp.out Hx.out Hxp.out _).mono ?_
        rintro e v1 ⟨rfl, hb⟩
        have HFV := Lib.hid hb
        have HOV := Lib.hid (HOD.out.below hb)
        clear hb
        go_wp2_with fail
        refine hK.out _ _ (⟨HOV.out.row.2.2.2.1 q y HQY.out, HOV.out.row.2.2.2.1 a x HPX.out⟩) (fun hHeld2 => ?_)
        clear hK K hHeld
        have hHeld := hHeld2
        clear hHeld2
        try simp only [Act.put, List.setIfInBounds_toArray, List.set_cons_zero, List.set_cons_succ]
        refine wpAnyH_take (i := 10) (v := ?_) (by simp only [List.getElem?_toArray, List.getElem?_cons_succ, List.getElem?_cons_zero]; rfl) (by kernel_rfl) (by kernel_rfl) (by kernel_rfl) (fun _ _ _ h => h) (Or.inl ⟨by rfl, ?_⟩) (by assumption) ?_
        rotate_left
        · intro W hSW
          go_simp
          try with_reducible rfl
        try simp only [Act.put, List.setIfInBounds_toArray, List.set_cons_zero, List.set_cons_succ]
        refine wpAnyH_done (by kernel_rfl) ?_ _
        refine NoPanic.normal ?_
        clear hHeld hh1 hh2 hh3 hh4
        have HBV := Lib.hid (HB.out.drew.trans (HFV.out.mono (Nat.le_trans HBG.out.1 (Nat.le_of_lt HBG.out.2))))
        go_wp2_with fail
        exact ⟨⟨q + 1, j, by first | rw [HWQ.out _ rfl] | rfl, rfl, by have := HS.out; omega, HS.out.2.1, HS.out.2.2.2.2.2.2.2.1, (fun z _ hz => by rw [Nat.add_sub_cancel, HQY.out] at hz; cases hz; exact HL.out), HHI.out, HOV.out, HBV.out⟩, by have := HS.out; (first | rw [HWQ.out _ rfl] | skip); simp [intOf]; omega⟩
    · have hlti : ¬ (i : Int) < (i : Int) := by omega
      obtain rfl : i = j := by omega
      obtain ⟨k0, hk0⟩ : ∃ k, i - m = k := ⟨_, rfl⟩
      have HE : Hid (mrg ltT [x] Y = Y.take k0 ++ x :: Y.drop k0) := by
        rw [← hk0]
        exact left_end (C := C) ltT_swo HY.out a m b i HA.out HM.out HBL.out hmi hjb HLO.out HHI.out
      obtain ⟨p0, hp0⟩ : ∃ p, a + k0 = p := ⟨_, rfl⟩
      have HK0 : Hid (k0 ≤ Y.length ∧ a + k0 = p0 ∧ p0 < n) := by have := HBL.out; have := HM.out; have := HLN.out; show _ ∧ _ ∧ _; omega
      have HWP : Hid (wrap64 ((i : Int) - 1) = (p0 : Int)) := by rw [show (i : Int) - 1 = (p0 : Int) by have := HM.out; omega]; exact w64 _ (by have := HK0.out; have := HNB.out; omega) (by have := HK0.out; have := HNB.out; omega)
      have HO2 : Hid (OwnE 30 wr base (.slice (some ⟨g, 0, none⟩) n c) (A ++ (Y.take 0 ++ x :: (Y.drop 0 ++ C)))) := HO.out
      clear hlt hmi hij hjb hk0 hp0 HLO HHI HO
      go_wp2_with fail
      go_loopw [13] (fun kv wq => ∃ t k : Nat, kv = .int .i64 (k : Int) ∧ a + t = k ∧ t ≤ k0 ∧ OwnE 30 wq base (.slice (some ⟨g, 0, none⟩) n c) (A ++ (Y.take t ++ x :: (Y.drop t ++ C))) ∧ Below base w wq) (fun kv _ => p0 - (intOf kv).toNat)
      case atStart => exact ⟨0, a, rfl, rfl, Nat.zero_le _, HO2.out, HB.out⟩
      case round =>
        rename World => wq
        obtain ⟨t, p, rfl, hk, ht, ho, hbl⟩ := hrel
        have HO3 := Lib.hid ho
        have HB3 := Lib.hid hbl
        have HT := Lib.hid ht
        have HKK := Lib.hid hk
        clear ho hbl hk ht HO2 HB
        by_cases htk : t < k0
        · obtain ⟨q, hq⟩ : ∃ q, p + 1 = q := ⟨_, rfl⟩
          have HF : Hid (p < p0 ∧ q < n ∧ p < n ∧ t < Y.length ∧ t + 1 ≤ k0 ∧ p + 1 = q ∧ a + t = p) := by have := HK0.out; have := HKK.out; show _ ∧ _ ∧ _ ∧ _ ∧ _ ∧ _ ∧ _; omega
          have hlt2 : (p : Int) < (p0 : Int) := by have := HF.out; omega
          have hpn : (p : Int) < (n : Int) := by have := HF.out; omega
          have hqn : (q : Int) < (n : Int) := by have := HF.out; omega
          have hp00 : (0 : Int) ≤ (p : Int) := Int.natCast_nonneg p
          have hq0 : (0 : Int) ≤ (q : Int) := Int.natCast_nonneg q
          have e1 : (p : Int) + 1 = (q : Int) := by omega
          have bq : -9223372036854775808 ≤ (q : Int) ∧ (q : Int) ≤ 9223372036854775807 := by have := HNB.out; omega
          have HW1 : Hid (wrap64 ((p : Int) + 1) = (q : Int)) := by rw [e1]; exact w64 _ bq.1 bq.2
          have HV1 : Hid (IntKind.i64.wrap ((p : Int) + 1) = (q : Int)) := by rw [e1]; exact w64k _ bq.1 bq.2
          obtain ⟨y, hy⟩ : ∃ y, Y[t]? = some y := ⟨_, List.getElem?_eq_getElem HF.out.2.2.2.1⟩
          have HPX2 : Hid ((A ++ (Y.take t ++ x :: (Y.drop t ++ C)))[p]? = some x) := by
            have e := way_at A Y C x t (Nat.le_of_lt HF.out.2.2.2.1)
            rwa [HA.out, HF.out.2.2.2.2.2.2] at e
          have HQY : Hid ((A ++ (Y.take t ++ x :: (Y.drop t ++ C)))[q]? = some y) := by
            have e := way_next A Y C x t HF.out.2.2.2.1
            rw [HA.out, HF.out.2.2.2.2.2.2, HF.out.2.2.2.2.2.1] at e
            exact e.trans hy
          have HOD : Hid (OwnE 30 wq.drew base (.slice (some ⟨g, 0, none⟩) n c) (A ++ (Y.take t ++ x :: (Y.drop t ++ C)))) := HO3.out.below (Below.refl _ _).drew
          have Hy : Hid (y.n.length = 20) := HOD.out.2 y (List.mem_of_getElem? HQY.out)
          have Hx : Hid (x.n.length = 20) := HOD.out.2 x (List.mem_of_getElem? HPX2.out)
          have HRy : Hid (wq.drew.rangeAt g (q * 22) (entL y)) := HOD.out.row.2.2.2.1 q y HQY.out
          have HRx : Hid (wq.drew.rangeAt g (p * 22) (entL x)) := HOD.out.row.2.2.2.1 p x HPX2.out
          have HBG : Hid (base ≤ g) := HOD.out.row.2.1
          have HT1 : Hid (wq.drew.there g (p * 22) (entA y).size) := by rw [entA_size y Hy.out]; exact HOD.out.row.2.2.2.2 p (List.getElem?_eq_some_iff.1 HPX2.out).1
          have HO1 : Hid (OwnE 30 (wq.drew.setCells g (p * 22) (entA y).toList) base (.slice (some ⟨g, 0, none⟩) n c) ((A ++ (Y.take t ++ x :: (Y.drop t ++ C))).set p y)) := HOD.out.set (List.getElem?_eq_some_iff.1 HPX2.out).1 Hy.out
          have HT2 : Hid ((wq.drew.setCells g (p * 22) (entA y).toList).there g (q * 22) (entA x).size) := by rw [entA_size x Hx.out]; exact HO1.out.row.2.2.2.2 q (by rw [List.length_set]; exact (List.getElem?_eq_some_iff.1 HQY.out).1)
          have HO4 : Hid (OwnE 30 ((wq.drew.setCells g (p * 22) (entA y).toList).setCells g (q * 22) (entA x).toList) base (.slice (some ⟨g, 0, none⟩) n c) (A ++ (Y.take (t + 1) ++ x :: (Y.drop (t + 1) ++ C)))) := by
            have h1 := HO1.out.set (k := q) (by rw [List.length_set]; exact (List.getElem?_eq_some_iff.1 HQY.out).1) Hx.out
            rw [← swap_val HPX2.out HQY.out] at h1
            have h2 := walk_swap A Y C x t HF.out.2.2.2.1
            rw [HA.out, HF.out.2.2.2.2.2.2, HF.out.2.2.2.2.2.1] at h2
            rwa [h2] at h1
          have HB4 : Hid (Below base w ((wq.drew.setCells g (p * 22) (entA y).toList).setCells g (q * 22) (entA x).toList)) := below_setCellsE g HBG.out _ _ _ (below_setCellsE g HBG.out _ _ _ HB3.out.drew)
          clear hy hq htk e1 bq
          have hwp := HWP.out
          have hw1 := HW1.out
          have hv1 := HV1.out
          go_wp2_with fail
          refine wp_region_noPanic ?_
          refine wp_region_held_drew (S := fun _ => True) (by kernel_rfl) ?_ (fun hHeld => ?_)
          · exact True.intro
          refine wpAnyH_take (i := 0) (v := ?_) (by simp only [List.getElem?_toArray, List.getElem?_cons_zero]; rfl) (by kernel_rfl) (by kernel_rfl) (by kernel_rfl) (fun _ _ _ h => h) (Or.inl ⟨by rfl, ?_⟩) (by assumption) ?_
          rotate_left
          · intro W hSW
            go_simp
            try with_reducible rfl
          try simp only [Act.put, List.setIfInBounds_toArray, List.set_cons_zero, List.set_cons_succ]
          refine wpAnyH_take (i := 1) (v := ?_) (by simp only [List.getElem?_toArray, List.getElem?_cons_succ, List.getElem?_cons_zero]; rfl) (by kernel_rfl) (by kernel_rfl) (by kernel_rfl) (fun _ _ _ h => h) (Or.inl ⟨by rfl, ?_⟩) (by assumption) ?_
          rotate_left
          · intro W hSW
            go_simp
            try with_reducible rfl
          try simp only [Act.put, List.setIfInBounds_toArray, List.set_cons_zero, List.set_cons_succ]
          refine wpAnyH_take (i := 2) (v := ?_) (by simp only [List.getElem?_toArray, List.getElem?_cons_succ, List.getElem?_cons_zero]; rfl) (by kernel_rfl) (by kernel_rfl) (by kernel_rfl) (fun _ _ _ h => h) (Or.inl ⟨by rfl, ?_⟩) (by assumption) ?_
          rotate_left
          · intro W hSW
            go_simp
            try with_reducible rfl
          try simp only [Act.put, List.setIfInBounds_toArray, List.set_cons_zero, List.set_cons_succ]
          refine wpAnyH_take (i := 3) (v := ?_) (by simp only [List.getElem?_toArray, List.getElem?_cons_succ, List.getElem?_cons_zero]; rfl) (by kernel_rfl) (by kernel_rfl) (by kernel_rfl) (fun _ _ _ h => h) (Or.inl ⟨by rfl, ?_⟩) (by assumption) ?_
          rotate_left
          · intro W hSW
            go_simp
            try with_reducible rfl
          try simp only [Act.put, List.setIfInBounds_toArray, List.set_cons_zero, List.set_cons_succ]
          refine wpAnyH_take (i := 4) (v := ?_) (by simp only [List.getElem?_toArray, List.getElem?_cons_succ, List.getElem?_cons_zero]; rfl) (by kernel_rfl) (by kernel_rfl) (by kernel_rfl) (fun _ _ _ h => h) (Or.inl ⟨by rfl, ?_⟩) (by assumption) ?_
          rotate_left
          · intro W hSW
            go_simp
            try with_reducible rfl
          try simp only [Act.put, List.setIfInBounds_toArray, List.set_cons_zero, List.set_cons_succ]
          refine wpAnyH_take (i := 5) (v := ?_) (by simp only [List.getElem?_toArray, List.getElem?_cons_succ, List.getElem?_cons_zero]; rfl) (by kernel_rfl) (by kernel_rfl) (by kernel_rfl) (fun _ _ _ h => h) (Or.inl ⟨by rfl, ?_⟩) (by assumption) ?_
          rotate_left
          · intro W hSW
            go_simp
            try with_reducible rfl
          try simp only [Act.put, List.setIfInBounds_toArray, List.set_cons_zero, List.set_cons_succ]
          refine wpAnyH_take (i := 6) (v := ?_) (by simp only [List.getElem?_toArray, List.getElem?_cons_succ, List.getElem?_cons_zero]; rfl) (by kernel_rfl) (by kernel_rfl) (by kernel_rfl) (fun _ _ _ h => h) (Or.inl ⟨by rfl, ?_⟩) (by assumption) ?_
          rotate_left
          · intro W hSW
            go_simp
            try with_reducible rfl
          try simp only [Act.put, List.setIfInBounds_toArray, List.set_cons_zero, List.set_cons_succ]
          refine wpAnyH_take (i := 7) (v := ?_) (by simp only [List.getElem?_toArray, List.getElem?_cons_succ, List.getElem?_cons_zero]; rfl) (by kernel_rfl) (by kernel_rfl) (by kernel_rfl) (fun _ _ _ h => h) (Or.inl ⟨by rfl, ?_⟩) (by assumption) ?_
          rotate_left
          · intro W hSW
            go_simp
            try with_reducible rfl
          try simp only [Act.put, List.setIfInBounds_toArray, List.set_cons_zero, List.set_cons_succ]
          refine wpAnyH_take (i := 8) (v := ?_) (by simp only [List.getElem?_toArray, List.getElem?_cons_succ, List.getElem?_cons_zero]; rfl) (by kernel_rfl) (by kernel_rfl) (by kernel_rfl) (fun _ _ _ h => h) (Or.inl ⟨by rfl, ?_⟩) (by assumption) ?_
          rotate_left
          · intro W hSW
            go_simp
            try with_reducible rfl
          try simp only [Act.put, List.setIfInBounds_toArray, List.set_cons_zero, List.set_cons_succ]
          refine wpAnyH_take (i := 10) (v := ?_) (by simp only [List.getElem?_toArray, List.getElem?_cons_succ, List.getElem?_cons_zero]; rfl) (by kernel_rfl) (by kernel_rfl) (by kernel_rfl) (fun _ _ _ h => h) (Or.inl ⟨by rfl, ?_⟩) (by assumption) ?_
          rotate_left
          · intro W hSW
            go_simp
            try with_reducible rfl
          try simp only [Act.put, List.setIfInBounds_toArray, List.set_cons_zero, List.set_cons_succ]
          refine wpAnyH_take (i := 11) (v := ?_) (by simp only [List.getElem?_toArray, List.getElem?_cons_succ, List.getElem?_cons_zero]; rfl) (by kernel_rfl) (by kernel_rfl) (by kernel_rfl) (fun _ _ _ h => h) (Or.inl ⟨by rfl, ?_⟩) (by assumption) ?_
          rotate_left
          · intro W hSW
            go_simp
            try with_reducible rfl
          try simp only [Act.put, List.setIfInBounds_toArray, List.set_cons_zero, List.set_cons_succ]
          refine wpAnyH_take (i := 12) (v := ?_) (by simp only [List.getElem?_toArray, List.getElem?_cons_succ, List.getElem?_cons_zero]; rfl) (by kernel_rfl) (by kernel_rfl) (by kernel_rfl) (fun _ _ _ h => h) (Or.inl ⟨by rfl, ?_⟩) (by assumption) ?_
          rotate_left
          · intro W hSW
            go_simp
            try with_reducible rfl
          try simp only [Act.put, List.setIfInBounds_toArray, List.set_cons_zero, List.set_cons_succ]
          refine wpAnyH_ready (rs := [9, 13]) (by kernel_rfl) (by simp) ?_
          refine AllReadyH.cons (by simp only [List.getElem?_toArray, List.getElem?_cons_succ, List.getElem?_cons_zero]; rfl) (fun K hK => ?_) (AllReadyH.cons (by simp only [List.getElem?_toArray, List.getElem?_cons_succ, List.getElem?_cons_zero]; rfl) (fun K hK => ?_) AllReadyH.nil)
          · refine step_load_mid (by rfl) 30 _ rfl g (q * 22) rfl (entL y) _ (HRy.out) Tryd.underlying30 rfl (ent_infoL y Hy.out) ?_
            refine hK.out _ _ (True.intro) (fun hHeld2 => ?_)
            clear hK K hHeld
            have hHeld := hHeld2
            clear hHeld2
            try simp only [Act.put, List.setIfInBounds_toArray, List.set_cons_zero, List.set_cons_succ]
            refine wpAnyH_ready (rs := [13]) (by kernel_rfl) (by simp) ?_
            refine AllReadyH.cons (by simp only [List.getElem?_toArray, List.getElem?_cons_succ, List.getElem?_cons_zero]; rfl) (fun K hK => ?_) AllReadyH.nil
            refine step_load_mid (by rfl) 30 _ rfl g (p * 22) rfl (entL x) _ (HRx.out) Tryd.underlying30 rfl (ent_infoL x Hx.out) ?_
            refine hK.out _ _ (True.intro) (fun hHeld2 => ?_)
            clear hK K hHeld
            have hHeld := hHeld2
            clear hHeld2
            try simp only [Act.put, List.setIfInBounds_toArray, List.set_cons_zero, List.set_cons_succ]
            refine wpAnyH_take (i := 14) (v := ?_) (by simp only [List.getElem?_toArray, List.getElem?_cons_succ, List.getElem?_cons_zero]; rfl) (by kernel_rfl) (by kernel_rfl) (by kernel_rfl) (fun _ _ _ h => h) (Or.inl ⟨by rfl, ?_⟩) (by assumption) ?_
            rotate_left
            · intro W hSW
              go_simp
              try with_reducible rfl
            try simp only [Act.put, List.setIfInBounds_toArray, List.set_cons_zero, List.set_cons_succ]
            refine wpAnyH_ready (rs := [15]) (by kernel_rfl) (by simp) ?_
            refine AllReadyH.cons (by simp only [List.getElem?_toArray, List.getElem?_cons_succ, List.getElem?_cons_zero]; rfl) (fun K hK => ?_) AllReadyH.nil
            refine step_store_mid (by rfl) 30 _ _ rfl g (p * 22) (entA y) rfl rfl HT1.out (ent_info y Hy.out) (entA_one y) ?_
            refine hK.out _ _ (True.intro) (fun hHeld2 => ?_)
            clear hK K hHeld
            have hHeld := hHeld2
            clear hHeld2
            try simp only [Act.put, List.setIfInBounds_toArray, List.set_cons_zero, List.set_cons_succ]
            refine wpAnyH_take (i := 16) (v := ?_) (by simp only [List.getElem?_toArray, List.getElem?_cons_succ, List.getElem?_cons_zero]; rfl) (by kernel_rfl) (by kernel_rfl) (by kernel_rfl) (fun _ _ _ h => h) (Or.inl ⟨by rfl, ?_⟩) (by assumption) ?_
            rotate_left
            · intro W hSW
              go_simp
              try with_reducible rfl
            try simp only [Act.put, List.setIfInBounds_toArray, List.set_cons_zero, List.set_cons_succ]
            refine wpAnyH_ready (rs := [17]) (by kernel_rfl) (by simp) ?_
            refine AllReadyH.cons (by simp only [List.getElem?_toArray, List.getElem?_cons_succ, List.getElem?_cons_zero]; rfl) (fun K hK => ?_) AllReadyH.nil
            refine step_store_mid (by rfl) 30 _ _ rfl g (q * 22) (entA x) rfl rfl HT2.out (ent_info x Hx.out) (entA_one x) ?_
            refine hK.out _ _ (True.intro) (fun hHeld2 => ?_)
            clear hK K hHeld
            have hHeld := hHeld2
            clear hHeld2
            try simp only [Act.put, List.setIfInBounds_toArray, List.set_cons_zero, List.set_cons_succ]
            refine wpAnyH_done (by kernel_rfl) ?_ _
            refine NoPanic.normal ?_
            clear hHeld
            go_wp2_with fail
            exact ⟨⟨t + 1, q, by first | rw [HW1.out] | rfl, by have := HF.out; omega, HF.out.2.2.2.2.1, HO4.out, HB4.out⟩, by have := HF.out; (first | rw [HW1.out] | skip); simp [intOf]; omega⟩
          · refine step_load_mid (by rfl) 30 _ rfl g (p * 22) rfl (entL x) _ (HRx.out) Tryd.underlying30 rfl (ent_infoL x Hx.out) ?_
            refine hK.out _ _ (True.intro) (fun hHeld2 => ?_)
            clear hK K hHeld
            have hHeld := hHeld2
            clear hHeld2
            try simp only [Act.put, List.setIfInBounds_toArray, List.set_cons_zero, List.set_cons_succ]
            refine wpAnyH_ready (rs := [9]) (by kernel_rfl) (by simp) ?_
            refine AllReadyH.cons (by simp only [List.getElem?_toArray, List.getElem?_cons_succ, List.getElem?_cons_zero]; rfl) (fun K hK => ?_) AllReadyH.nil
            refine step_load_mid (by rfl) 30 _ rfl g (q * 22) rfl (entL y) _ (HRy.out) Tryd.underlying30 rfl (ent_infoL y Hy.out) ?_
            refine hK.out _ _ (True.intro) (fun hHeld2 => ?_)
            clear hK K hHeld
            have hHeld := hHeld2
            clear hHeld2
            try simp only [Act.put, List.setIfInBounds_toArray, List.set_cons_zero, List.set_cons_succ]
            refine wpAnyH_take (i := 14) (v := ?_) (by simp only [List.getElem?_toArray, List.getElem?_cons_succ, List.getElem?_cons_zero]; rfl) (by kernel_rfl) (by kernel_rfl) (by kernel_rfl) (fun _ _ _ h => h) (Or.inl ⟨by rfl, ?_⟩) (by assumption) ?_
            rotate_left
            · intro W hSW
              go_simp
              try with_reducible rfl
            try simp only [Act.put, List.setIfInBounds_toArray, List.set_cons_zero, List.set_cons_succ]
            refine wpAnyH_ready (rs := [15]) (by kernel_rfl) (by simp) ?_
            refine AllReadyH.cons (by simp only [List.getElem?_toArray, List.getElem?_cons_succ, List.getElem?_cons_zero]; rfl) (fun K hK => ?_) AllReadyH.nil
            refine step_store_mid (by rfl) 30 _ _ rfl g (p * 22) (entA y) rfl rfl HT1.out (ent_info y Hy.out) (entA_one y) ?_
            refine hK.out _ _ (True.intro) (fun hHeld2 => ?_)
            clear hK K hHeld
            have hHeld := hHeld2
            clear hHeld2
            try simp only [Act.put, List.setIfInBounds_toArray, List.set_cons_zero, List.set_cons_succ]
            refine wpAnyH_take (i := 16) (v := ?_) (by simp only [List.getElem?_toArray, List.getElem?_cons_succ, List.getElem?_cons_zero]; rfl) (by kernel_rfl) (by kernel_rfl) (by kernel_rfl) (fun _ _ _ h => h) (Or.inl ⟨by rfl, ?_⟩) (by assumption) ?_
            rotate_left
            · intro W hSW
              go_simp
              try with_reducible rfl
            try simp only [Act.put, List.setIfInBounds_toArray, List.set_cons_zero, List.set_cons_succ]
            refine wpAnyH_ready (rs := [17]) (by kernel_rfl) (by simp) ?_
            refine AllReadyH.cons (by simp only [List.getElem?_toArray, List.getElem?_cons_succ, List.getElem?_cons_zero]; rfl) (fun K hK => ?_) AllReadyH.nil
            refine step_store_mid (by rfl) 30 _ _ rfl g (q * 22) (entA x) rfl rfl HT2.out (ent_info x Hx.out) (entA_one x) ?_
            refine hK.out _ _ (True.intro) (fun hHeld2 => ?_)
            clear hK K hHeld
            have hHeld := hHeld2
            clear hHeld2
            try simp only [Act.put, List.setIfInBounds_toArray, List.set_cons_zero, List.set_cons_succ]
            refine wpAnyH_done (by kernel_rfl) ?_ _
            refine NoPanic.normal ?_
            clear hHeld
            go_wp2_with fail
            exact ⟨⟨t + 1, q, by first | rw [HW1.out] | rfl, by have := HF.out; omega, HF.out.2.2.2.2.1, HO4.out, HB4.out⟩, by have := HF.out; (first | rw [HW1.out] | skip); simp [intOf]; omega⟩
        · have hlt2 : ¬ (p : Int) < (p0 : Int) := by have := HK0.out; have := HKK.out; omega
          have htt : t = k0 := by have := HT.out; omega
          have HO4 : Hid (OwnE 30 wq base (.slice (some ⟨g, 0, none⟩) n c) (A ++ (mrg ltT [x] Y ++ C))) := by
            have h1 := HO3.out
            rw [htt] at h1
            rw [HE.out]
            rw [List.append_assoc]
            exact h1
          clear htk htt
          have hwp := HWP.out
          go_wp2_with fail
          (try simp only [Exit.inBlock, Exit.then])
          refine bodyPost_ret (results_none rfl _ _ _) rfl ?_
          exact ⟨rfl, HO4.out, HB3.out⟩
end Go.Proofs.YthemolkmciofaaaDoor
