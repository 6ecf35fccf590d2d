/- Insertion sort of entries: slices.insertionSortCmpFunc. -/
import Derived.Test.YthemolkmciofaaaDoorTzRot
import Derived.Test.YthemolkmciofaaaDoorTrRight
namespace Go.Proofs.YthemolkmciofaaaDoor
open Go.RowKit Plain Go.ChangeShapes Go.WideShapes Go.ChangeAt Go.Great
set_option linter.unusedVariables false
set_option linter.unusedSimpArgs false
theorem ins_at (A X R : List TE) (y : TE) (t : Nat) (ht : t ≤ X.length) : (A ++ (X.take t ++ y :: (X.drop t ++ R)))[A.length + t]? = some y := by
  rw [List.getElem?_append_right (by omega), Nat.add_sub_cancel_left, List.getElem?_append_right (by rw [List.length_take]; omega), List.length_take, Nat.min_eq_left ht, Nat.sub_self]
  rfl
theorem ins_before (A X R : List TE) (y : TE) (t : Nat) (ht : t + 1 ≤ X.length) : (A ++ (X.take (t + 1) ++ y :: (X.drop (t + 1) ++ R)))[A.length + t]? = X[t]? := by
  rw [List.getElem?_append_right (by omega), Nat.add_sub_cancel_left, List.getElem?_append_left (by rw [List.length_take]; omega), List.getElem?_take, if_pos (by omega)]
set_option maxRecDepth 100000 in
set_option maxHeartbeats 16000000 in
theorem inssort_any (A B C : List TE) (g n c a b base : Nat) (w : World) (h : OwnE 30 w base (.slice (some ⟨g, 0, none⟩) n c) (A ++ (B ++ C))) (hn : n ≤ 100000) (ha : A.length = a) (hb : a + B.length = b) (hp : ∀ x ∈ B, x.p.size ≤ 100000) (hbase : base ≤ w.heap.size) :
    Calls Tryd.prog 31 #[.slice (some ⟨g, 0, none⟩) n c, .int .i64 (a : Int), .int .i64 (b : Int), (.func (.func 18) #[] #[])] w fun e w' => e = .returned (.tuple #[]) ∧ OwnE 30 w' base (.slice (some ⟨g, 0, none⟩) n c) (A ++ (sortS ltT B ++ C)) ∧ Below base w w' := by
  have H0 := Lib.hid h
  have HNB := Lib.hid hn
  have HA := Lib.hid ha
  have HBL := Lib.hid hb
  have HPS := Lib.hid hp
  have HBS := Lib.hid hbase
  have HLN : Hid (b ≤ n) := by have := h.row.1; simp only [List.length_append] at this; show _ ≤ _; omega
  have HWA := Lib.hid (add_nat a 1 (a + 1) rfl (by have := HLN.out; omega))
  clear h hn ha hb hp hbase
  go_enter Tryd.func31, Tryd.ntmps31
  go_wp2_with fail
  go_loopw [8] (fun iv wr => ∃ k i : Nat, iv = .int .i64 (i : Int) ∧ i = a + 1 + k ∧ (k = 0 ∨ a + 1 + k ≤ b) ∧ OwnE 30 wr base (.slice (some ⟨g, 0, none⟩) n c) (A ++ (sortS ltT (B.take (k + 1)) ++ (B.drop (k + 1) ++ C))) ∧ Below base w wr) (fun iv _ => b - (intOf iv).toNat)
  case atStart => exact ⟨0, a + 1, by first | rw [show wrap64 ((a : Int) + 1) = ((a + 1 : Nat) : Int) from HWA.out] | rfl, rfl, .inl rfl, by
    have e : sortS ltT (B.take (0 + 1)) = B.take (0 + 1) := by
      cases B with
      | nil => rfl
      | cons x r => exact sortS_of ltT_swo _ _ rfl (List.pairwise_singleton _ _)
    rw [e, ← List.append_assoc (B.take _), List.take_append_drop]
    exact H0.out, Below.refl _ _⟩
  case round =>
    obtain ⟨k, i, rfl, hik, hk, ho, hbl⟩ := hrel
    have HIK := Lib.hid hik
    have HO0 := Lib.hid ho
    have HB0 := Lib.hid hbl
    have HK := Lib.hid hk
    have WK := Lib.hid (next_int i (by have := HLN.out; have := HNB.out; have := HBL.out; rcases hk with h | h <;> omega))
    clear ho hbl hk
    by_cases hkb : i < b
    · have hki : (i : Int) < (b : Int) := by omega
      have HK2 : Hid (a + 1 + (k + 1) ≤ b) := by show _ ≤ _; omega
      have HI1 : Hid (i + 1 = a + 1 + (k + 1)) := by show _ = _; omega
      have HI2 : Hid (i + 1 ≤ b) := hkb
      obtain ⟨y, hy⟩ : ∃ y, B[k + 1]? = some y := ⟨_, List.getElem?_eq_getElem (by have := HBL.out; omega)⟩
      have HY := Lib.hid hy
      have Hyp : Hid (y.p.size ≤ 100000) := HPS.out y (List.mem_of_getElem? hy)
      obtain ⟨X, hX⟩ : ∃ X, sortS ltT (B.take (k + 1)) = X := ⟨_, rfl⟩
      have HXE := Lib.hid hX
      have HX : Hid (Srt ltT X) := by rw [← hX]; exact sortS_sorted ltT_swo _ _ rfl
      have HXL : Hid (X.length = k + 1) := by rw [← hX, sortS_len, List.length_take]; have := HBL.out; show _ = _; omega
      have HXP : Hid (∀ x ∈ X, x.p.size ≤ 100000) := fun x hx => by
        rw [← hX] at hx
        exact HPS.out x (List.mem_of_mem_take ((sortS_perm _ _ rfl).mem_iff.1 hx))
      obtain ⟨R, hR⟩ : ∃ R, B.drop (k + 1 + 1) ++ C = R := ⟨_, rfl⟩
      have hdr : B.drop (k + 1) = y :: B.drop (k + 1 + 1) := by
        obtain ⟨hlt, he⟩ := List.getElem?_eq_some_iff.1 hy
        rw [List.drop_eq_getElem_cons hlt, he]
      have HO1 : Hid (OwnE 30 wr base (.slice (some ⟨g, 0, none⟩) n c) (A ++ (X.take (k + 1) ++ y :: (X.drop (k + 1) ++ R)))) := by
        have h := HO0.out
        rw [hX, hdr] at h
        rw [List.take_of_length_le (by rw [HXL.out]; omega), List.drop_eq_nil_of_le (by rw [HXL.out]; omega), ← hR]
        exact h
      rw [← HXE.out] at hX
      clear hX hdr hy hkb HO0 hik
      go_wp2_with fail
      go_loopw [9] (fun jv wq => ∃ t q : Nat, jv = .int .i64 (q : Int) ∧ a + t = q ∧ t ≤ X.length ∧ (∀ x, X[t]? = some x → ltT y x = true) ∧ OwnE 30 wq base (.slice (some ⟨g, 0, none⟩) n c) (A ++ (X.take t ++ y :: (X.drop t ++ R))) ∧ Below base w wq) (fun jv _ => (intOf jv).toNat)
      case atStart => exact ⟨k + 1, i, rfl, by have := HIK.out; omega, by rw [HXL.out]; omega, (fun x hx => by rw [List.getElem?_eq_none (by rw [HXL.out]; omega)] at hx; cases hx), HO1.out, HB0.out⟩
      case round =>
        rename World => wq
        obtain ⟨t, q, rfl, hq, ht, hseen, ho, hbl⟩ := hrel
        have HO := Lib.hid ho
        have HB := Lib.hid hbl
        have HT := Lib.hid ht
        have HSEEN := Lib.hid hseen
        clear hseen hbl HO1
        cases t with
        | zero =>
          obtain rfl : a = q := by omega
          have hng : ¬ (a : Int) < (a : Int) := by omega
          have HSTOP : Hid (∀ x, 0 < 0 → X[0 - 1]? = some x → ltT y x = false) := fun x h => absurd h (by omega)
          clear ht ho hq
          go_wp2_with fail
          refine wp_region_noPanic ?_
          refine wp_region_held_drew (S := fun _ => True) (by kernel_rfl) ?_ (fun hHeld => ?_)
          · exact True.intro
          refine wpAnyH_take (i := 0) (v := ?_) (by simp only [List.getElem?_toArray, List.getElem?_cons_zero]; rfl) (by kernel_rfl) (by kernel_rfl) (by kernel_rfl) (fun _ _ _ h => h) (Or.inl ⟨by rfl, ?_⟩) (by assumption) ?_
          rotate_left
          · intro W hSW
            go_simp
            try with_reducible rfl
          try simp only [Act.put, List.setIfInBounds_toArray, List.set_cons_zero, List.set_cons_succ]
          refine wpAnyH_take (i := 1) (v := ?_) (by simp only [List.getElem?_toArray, List.getElem?_cons_succ, List.getElem?_cons_zero]; rfl) (by kernel_rfl) (by kernel_rfl) (by kernel_rfl) (fun _ _ _ h => h) (Or.inl ⟨by rfl, ?_⟩) (by assumption) ?_
          rotate_left
          · intro W hSW
            go_simp
            try with_reducible rfl
          try simp only [Act.put, List.setIfInBounds_toArray, List.set_cons_zero, List.set_cons_succ]
          refine wpAnyH_take (i := 2) (v := ?_) (by simp only [List.getElem?_toArray, List.getElem?_cons_succ, List.getElem?_cons_zero]; rfl) (by kernel_rfl) (by kernel_rfl) (by kernel_rfl) (fun _ _ _ h => h) (Or.inl ⟨by rfl, ?_⟩) (by assumption) ?_
          rotate_left
          · intro W hSW
            go_simp
            try with_reducible rfl
          try simp only [Act.put, List.setIfInBounds_toArray, List.set_cons_zero, List.set_cons_succ]
          refine wpAnyH_take (i := 3) (v := ?_) (by simp only [List.getElem?_toArray, List.getElem?_cons_succ, List.getElem?_cons_zero]; rfl) (by kernel_rfl) (by kernel_rfl) (by kernel_rfl) (fun _ _ _ h => h) (Or.inl ⟨by rfl, ?_⟩) (by assumption) ?_
          rotate_left
          · intro W hSW
            go_simp
            try with_reducible rfl
          try simp only [Act.put, List.setIfInBounds_toArray, List.set_cons_zero, List.set_cons_succ]
          refine wpAnyH_take (i := 4) (v := undef) (by simp only [List.getElem?_toArray, List.getElem?_cons_succ, List.getElem?_cons_zero]; rfl) (by kernel_rfl) (by kernel_rfl) (by kernel_rfl) (fun _ _ _ h => h) (Or.inr ⟨by rfl, rfl⟩) (by assumption) ?_
          try simp only [Act.put, List.setIfInBounds_toArray, List.set_cons_zero, List.set_cons_succ]
          refine wpAnyH_take (i := 5) (v := undef) (by simp only [List.getElem?_toArray, List.getElem?_cons_succ, List.getElem?_cons_zero]; rfl) (by kernel_rfl) (by kernel_rfl) (by kernel_rfl) (fun _ _ _ h => h) (Or.inr ⟨by rfl, rfl⟩) (by assumption) ?_
          try simp only [Act.put, List.setIfInBounds_toArray, List.set_cons_zero, List.set_cons_succ]
          refine wpAnyH_take (i := 6) (v := undef) (by simp only [List.getElem?_toArray, List.getElem?_cons_succ, List.getElem?_cons_zero]; rfl) (by kernel_rfl) (by kernel_rfl) (by kernel_rfl) (fun _ _ _ h => h) (Or.inr ⟨by rfl, rfl⟩) (by assumption) ?_
          try simp only [Act.put, List.setIfInBounds_toArray, List.set_cons_zero, List.set_cons_succ]
          refine wpAnyH_take (i := 7) (v := undef) (by simp only [List.getElem?_toArray, List.getElem?_cons_succ, List.getElem?_cons_zero]; rfl) (by kernel_rfl) (by kernel_rfl) (by kernel_rfl) (fun _ _ _ h => h) (Or.inr ⟨by rfl, rfl⟩) (by assumption) ?_
          try simp only [Act.put, List.setIfInBounds_toArray, List.set_cons_zero, List.set_cons_succ]
          refine wpAnyH_take (i := 8) (v := undef) (by simp only [List.getElem?_toArray, List.getElem?_cons_succ, List.getElem?_cons_zero]; rfl) (by kernel_rfl) (by kernel_rfl) (by kernel_rfl) (fun _ _ _ h => h) (Or.inr ⟨by rfl, rfl⟩) (by assumption) ?_
          try simp only [Act.put, List.setIfInBounds_toArray, List.set_cons_zero, List.set_cons_succ]
          refine wpAnyH_take (i := 9) (v := undef) (by simp only [List.getElem?_toArray, List.getElem?_cons_succ, List.getElem?_cons_zero]; rfl) (by kernel_rfl) (by kernel_rfl) (by kernel_rfl) (fun _ _ _ h => h) (Or.inr ⟨by rfl, rfl⟩) (by assumption) ?_
          try simp only [Act.put, List.setIfInBounds_toArray, List.set_cons_zero, List.set_cons_succ]
          refine wpAnyH_take (i := 10) (v := undef) (by simp only [List.getElem?_toArray, List.getElem?_cons_succ, List.getElem?_cons_zero]; rfl) (by kernel_rfl) (by kernel_rfl) (by kernel_rfl) (fun _ _ _ h => h) (Or.inr ⟨by rfl, rfl⟩) (by assumption) ?_
          try simp only [Act.put, List.setIfInBounds_toArray, List.set_cons_zero, List.set_cons_succ]
          refine wpAnyH_take (i := 11) (v := undef) (by simp only [List.getElem?_toArray, List.getElem?_cons_succ, List.getElem?_cons_zero]; rfl) (by kernel_rfl) (by kernel_rfl) (by kernel_rfl) (fun _ _ _ h => h) (Or.inr ⟨by rfl, rfl⟩) (by assumption) ?_
          try simp only [Act.put, List.setIfInBounds_toArray, List.set_cons_zero, List.set_cons_succ]
          refine wpAnyH_take (i := 12) (v := undef) (by simp only [List.getElem?_toArray, List.getElem?_cons_succ, List.getElem?_cons_zero]; rfl) (by kernel_rfl) (by kernel_rfl) (by kernel_rfl) (fun _ _ _ h => h) (Or.inr ⟨by rfl, rfl⟩) (by assumption) ?_
          try simp only [Act.put, List.setIfInBounds_toArray, List.set_cons_zero, List.set_cons_succ]
          refine wpAnyH_take (i := 13) (v := undef) (by simp only [List.getElem?_toArray, List.getElem?_cons_succ, List.getElem?_cons_zero]; rfl) (by kernel_rfl) (by kernel_rfl) (by kernel_rfl) (fun _ _ _ h => h) (Or.inr ⟨by rfl, rfl⟩) (by assumption) ?_
          try simp only [Act.put, List.setIfInBounds_toArray, List.set_cons_zero, List.set_cons_succ]
          refine wpAnyH_take (i := 14) (v := undef) (by simp only [List.getElem?_toArray, List.getElem?_cons_succ, List.getElem?_cons_zero]; rfl) (by kernel_rfl) (by kernel_rfl) (by kernel_rfl) (fun _ _ _ h => h) (Or.inr ⟨by rfl, rfl⟩) (by assumption) ?_
          try simp only [Act.put, List.setIfInBounds_toArray, List.set_cons_zero, List.set_cons_succ]
          refine wpAnyH_take (i := 15) (v := undef) (by simp only [List.getElem?_toArray, List.getElem?_cons_succ, List.getElem?_cons_zero]; rfl) (by kernel_rfl) (by kernel_rfl) (by kernel_rfl) (fun _ _ _ h => h) (Or.inr ⟨by rfl, rfl⟩) (by assumption) ?_
          try simp only [Act.put, List.setIfInBounds_toArray, List.set_cons_zero, List.set_cons_succ]
          refine wpAnyH_take (i := 16) (v := ?_) (by simp only [List.getElem?_toArray, List.getElem?_cons_succ, List.getElem?_cons_zero]; rfl) (by kernel_rfl) (by kernel_rfl) (by kernel_rfl) (fun _ _ _ h => h) (Or.inl ⟨by rfl, ?_⟩) (by assumption) ?_
          rotate_left
          · intro W hSW
            go_simp
            try with_reducible rfl
          try simp only [Act.put, List.setIfInBounds_toArray, List.set_cons_zero, List.set_cons_succ]
          refine wpAnyH_done (by kernel_rfl) ?_ _
          refine NoPanic.normal ?_
          clear hHeld
          have HOD : Hid (OwnE 30 wq.drew base (.slice (some ⟨g, 0, none⟩) n c) (A ++ (X.take 0 ++ y :: (X.drop 0 ++ R)))) := HO.out.below (Below.refl _ _).drew
          go_wp2_with fail
          refine ⟨⟨k + 1, i + 1, by first | rw [WK.out _ rfl] | rfl, HI1.out, .inr HK2.out, ?_, HB.out.drew⟩, by have := HI2.out; (first | rw [WK.out _ rfl] | skip); simp [intOf]; omega⟩
          rw [block_step B (k + 1) y HY.out, HXE.out, hR]
          have h := HOD.out
          rw [ins_end ltT_swo HX.out y (0) HT.out HSTOP.out HSEEN.out] at h
          exact h
        | succ t =>
          obtain ⟨p, hp⟩ : ∃ p, a + t = p := ⟨_, rfl⟩
          have HPQ : Hid (q = p + 1) := by show _ = _; omega
          obtain ⟨x, hx⟩ : ∃ x, X[t]? = some x := ⟨_, List.getElem?_eq_getElem (by omega)⟩
          have HXT := Lib.hid hx
          have HQY : Hid ((A ++ (X.take (t + 1) ++ y :: (X.drop (t + 1) ++ R)))[q]? = some y) := by
            have h := ins_at A X R y (t + 1) ht
            rwa [HA.out, hq] at h
          have HPX : Hid ((A ++ (X.take (t + 1) ++ y :: (X.drop (t + 1) ++ R)))[p]? = some x) := by
            have h := ins_before A X R y t ht
            rw [HA.out, hp] at h
            exact h.trans hx
          have Hxp : Hid (x.p.size ≤ 100000) := HXP.out x (List.mem_of_getElem? hx)
          have HOD : Hid (OwnE 30 wq.drew base (.slice (some ⟨g, 0, none⟩) n c) (A ++ (X.take (t + 1) ++ y :: (X.drop (t + 1) ++ R)))) := HO.out.below (Below.refl _ _).drew
          obtain ⟨hln, hbg, hgl, hrow, hth⟩ := HOD.out.row
          have Hy : Hid (y.n.length = 20) := HOD.out.2 y (List.mem_of_getElem? HQY.out)
          have Hx : Hid (x.n.length = 20) := HOD.out.2 x (List.mem_of_getElem? HPX.out)
          have HRy : Hid (wq.drew.rangeAt g (q * 22) (entL y)) := hrow q y HQY.out
          have HRx : Hid (wq.drew.rangeAt g (p * 22) (entL x)) := hrow p x HPX.out
          have hq2 : q < n := by have := (List.getElem?_eq_some_iff.1 HQY.out).1; omega
          have hqn : (q : Int) < (n : Int) := by omega
          have hpn : (p : Int) < (n : Int) := by have := HPQ.out; omega
          have hgt : (a : Int) < (q : Int) := by omega
          have hp0 : (0 : Int) ≤ (p : Int) := Int.natCast_nonneg p
          have hq0 : (0 : Int) ≤ (q : Int) := Int.natCast_nonneg q
          have e1 : (q : Int) - 1 = (p : Int) := by have := HPQ.out; omega
          have bp : -9223372036854775808 ≤ (p : Int) ∧ (p : Int) ≤ 9223372036854775807 := by have := HNB.out; omega
          have HWQ : Hid (wrap64 ((q : Int) - 1) = (p : Int)) := by rw [e1]; exact w64 _ bp.1 bp.2
          have HVQ : Hid (IntKind.i64.wrap ((q : Int) - 1) = (p : Int)) := by rw [e1]; exact w64k _ bp.1 bp.2
          have HBG := Lib.hid hbg
          clear ht ho hrow hth hx hq2 e1 bp hln hgl hbg
          cases hl : ltT y x
          · have hcl : ¬ Lib.compareBytes (keyT y) (keyT x) < 0 := of_decide_eq_false hl
            have HSTOP : Hid (∀ z, 0 < t + 1 → X[t + 1 - 1]? = some z → ltT y z = false) := fun z _ hz => by
              rw [Nat.add_sub_cancel, HXT.out] at hz
              cases hz
              exact hl
            have hwq := HWQ.out
            have hvq := HVQ.out
            go_wp2_with fail
            refine wp_region_noPanic ?_
            refine wp_region_held_drew (S := fun W => W.rangeAt g (q * 22) (entL y) ∧ W.rangeAt g (p * 22) (entL x)) (by kernel_rfl) ?_ (fun hHeld => ?_)
            · exact ⟨HRy.out, HRx.out⟩
            refine wpAnyH_take (i := 0) (v := ?_) (by simp only [List.getElem?_toArray, List.getElem?_cons_zero]; rfl) (by kernel_rfl) (by kernel_rfl) (by kernel_rfl) (fun _ _ _ h => h) (Or.inl ⟨by rfl, ?_⟩) (by assumption) ?_
            rotate_left
            · intro W hSW
              go_simp
              try with_reducible rfl
            try simp only [Act.put, List.setIfInBounds_toArray, List.set_cons_zero, List.set_cons_succ]
            refine wpAnyH_take (i := 1) (v := ?_) (by simp only [List.getElem?_toArray, List.getElem?_cons_succ, List.getElem?_cons_zero]; rfl) (by kernel_rfl) (by kernel_rfl) (by kernel_rfl) (fun _ _ _ h => h) (Or.inl ⟨by rfl, ?_⟩) (by assumption) ?_
            rotate_left
            · intro W hSW
              go_simp
              try with_reducible rfl
            try simp only [Act.put, List.setIfInBounds_toArray, List.set_cons_zero, List.set_cons_succ]
            refine wpAnyH_take (i := 2) (v := ?_) (by simp only [List.getElem?_toArray, List.getElem?_cons_succ, List.getElem?_cons_zero]; rfl) (by kernel_rfl) (by kernel_rfl) (by kernel_rfl) (fun _ _ _ h => h) (Or.inl ⟨by rfl, ?_⟩) (by assumption) ?_
            rotate_left
            · intro W hSW
              go_simp
              try with_reducible rfl
            try simp only [Act.put, List.setIfInBounds_toArray, List.set_cons_zero, List.set_cons_succ]
            refine wpAnyH_take (i := 3) (v := ?_) (by simp only [List.getElem?_toArray, List.getElem?_cons_succ, List.getElem?_cons_zero]; rfl) (by kernel_rfl) (by kernel_rfl) (by kernel_rfl) (fun _ _ _ h => h) (Or.inl ⟨by rfl, ?_⟩) (by assumption) ?_
            rotate_left
            · intro W hSW
              go_simp
              try with_reducible rfl
            try simp only [Act.put, List.setIfInBounds_toArray, List.set_cons_zero, List.set_cons_succ]
            refine wpAnyH_take (i := 4) (v := ?_) (by simp only [List.getElem?_toArray, List.getElem?_cons_succ, List.getElem?_cons_zero]; rfl) (by kernel_rfl) (by kernel_rfl) (by kernel_rfl) (fun _ _ _ h => h) (Or.inl ⟨by rfl, ?_⟩) (by assumption) ?_
            rotate_left
            · intro W hSW
              go_simp
              try with_reducible rfl
            try simp only [Act.put, List.setIfInBounds_toArray, List.set_cons_zero, List.set_cons_succ]
            refine wpAnyH_take (i := 5) (v := ?_) (by simp only [List.getElem?_toArray, List.getElem?_cons_succ, List.getElem?_cons_zero]; rfl) (by kernel_rfl) (by kernel_rfl) (by kernel_rfl) (fun _ _ _ h => h) (Or.inl ⟨by rfl, ?_⟩) (by assumption) ?_
            rotate_left
            · intro W hSW
              go_simp
              try with_reducible rfl
            try simp only [Act.put, List.setIfInBounds_toArray, List.set_cons_zero, List.set_cons_succ]
            refine wpAnyH_take (i := 6) (v := ?_) (by simp only [List.getElem?_toArray, List.getElem?_cons_succ, List.getElem?_cons_zero]; rfl) (by kernel_rfl) (by kernel_rfl) (by kernel_rfl) (fun _ _ _ h => h) (Or.inl ⟨by rfl, ?_⟩) (by assumption) ?_
            rotate_left
            · intro W hSW
              go_simp
              try with_reducible rfl
            try simp only [Act.put, List.setIfInBounds_toArray, List.set_cons_zero, List.set_cons_succ]
            refine wpAnyH_take (i := 7) (v := ?_) (by simp only [List.getElem?_toArray, List.getElem?_cons_succ, List.getElem?_cons_zero]; rfl) (by kernel_rfl) (by kernel_rfl) (by kernel_rfl) (fun _ _ _ h => h) (Or.inl ⟨by rfl, ?_⟩) (by assumption) ?_
            rotate_left
            · intro W hSW
              go_simp
              try with_reducible rfl
            try simp only [Act.put, List.setIfInBounds_toArray, List.set_cons_zero, List.set_cons_succ]
            refine wpAnyH_take (i := 8) (by simp only [List.getElem?_toArray, List.getElem?_cons_succ, List.getElem?_cons_zero]; rfl) (by kernel_rfl) (by kernel_rfl) (by kernel_rfl) (fun _ _ _ h => h) (yieldsIf_load_mid (by rfl) 30 _ rfl g (q * 22) rfl (entL y) _ (fun W h => h.1) Tryd.underlying30 rfl (ent_infoL y Hy.out)) (by assumption) ?_
            try simp only [Act.put, List.setIfInBounds_toArray, List.set_cons_zero, List.set_cons_succ]
            refine wpAnyH_take (i := 9) (v := ?_) (by simp only [List.getElem?_toArray, List.getElem?_cons_succ, List.getElem?_cons_zero]; rfl) (by kernel_rfl) (by kernel_rfl) (by kernel_rfl) (fun _ _ _ h => h) (Or.inl ⟨by rfl, ?_⟩) (by assumption) ?_
            rotate_left
            · intro W hSW
              go_simp
              try with_reducible rfl
            try simp only [Act.put, List.setIfInBounds_toArray, List.set_cons_zero, List.set_cons_succ]
            refine wpAnyH_take (i := 10) (v := ?_) (by simp only [List.getElem?_toArray, List.getElem?_cons_succ, List.getElem?_cons_zero]; rfl) (by kernel_rfl) (by kernel_rfl) (by kernel_rfl) (fun _ _ _ h => h) (Or.inl ⟨by rfl, ?_⟩) (by assumption) ?_
            rotate_left
            · intro W hSW
              go_simp
              try with_reducible rfl
            try simp only [Act.put, List.setIfInBounds_toArray, List.set_cons_zero, List.set_cons_succ]
            refine wpAnyH_take (i := 11) (v := ?_) (by simp only [List.getElem?_toArray, List.getElem?_cons_succ, List.getElem?_cons_zero]; rfl) (by kernel_rfl) (by kernel_rfl) (by kernel_rfl) (fun _ _ _ h => h) (Or.inl ⟨by rfl, ?_⟩) (by assumption) ?_
            rotate_left
            · intro W hSW
              go_simp
              try with_reducible rfl
            try simp only [Act.put, List.setIfInBounds_toArray, List.set_cons_zero, List.set_cons_succ]
            refine wpAnyH_take (i := 12) (v := ?_) (by simp only [List.getElem?_toArray, List.getElem?_cons_succ, List.getElem?_cons_zero]; rfl) (by kernel_rfl) (by kernel_rfl) (by kernel_rfl) (fun _ _ _ h => h) (Or.inl ⟨by rfl, ?_⟩) (by assumption) ?_
            rotate_left
            · intro W hSW
              go_simp
              try with_reducible rfl
            try simp only [Act.put, List.setIfInBounds_toArray, List.set_cons_zero, List.set_cons_succ]
            refine wpAnyH_take (i := 13) (by simp only [List.getElem?_toArray, List.getElem?_cons_succ, List.getElem?_cons_zero]; rfl) (by kernel_rfl) (by kernel_rfl) (by kernel_rfl) (fun _ _ _ h => h) (yieldsIf_load_mid (by rfl) 30 _ rfl g (p * 22) rfl (entL x) _ (fun W h => h.2) Tryd.underlying30 rfl (ent_infoL x Hx.out)) (by assumption) ?_
            try simp only [Act.put, List.setIfInBounds_toArray, List.set_cons_zero, List.set_cons_succ]
            refine wpAnyH_ready (rs := [14]) (by kernel_rfl) (by simp) ?_
            refine AllReadyH.cons (by simp only [List.getElem?_toArray, List.getElem?_cons_succ, List.getElem?_cons_zero]; rfl) (fun K hK => ?_) AllReadyH.nil
            go_simp
            refine (compare_any y x Hy.out Hyp.out Hx.out Hxp.out _).mono ?_
            rintro e v1 ⟨rfl, hb⟩
            have HFV := Lib.hid hb
            have HOV := Lib.hid (HOD.out.below hb)
            clear hb
            go_wp2_with fail
            refine hK.out _ _ (⟨HOV.out.row.2.2.2.1 q y HQY.out, HOV.out.row.2.2.2.1 p x HPX.out⟩) (fun hHeld2 => ?_)
            clear hK K hHeld
            have hHeld := hHeld2
            clear hHeld2
            try simp only [Act.put, List.setIfInBounds_toArray, List.set_cons_zero, List.set_cons_succ]
            refine wpAnyH_take (i := 15) (v := ?_) (by simp only [List.getElem?_toArray, List.getElem?_cons_succ, List.getElem?_cons_zero]; rfl) (by kernel_rfl) (by kernel_rfl) (by kernel_rfl) (fun _ _ _ h => h) (Or.inl ⟨by rfl, ?_⟩) (by assumption) ?_
            rotate_left
            · intro W hSW
              go_simp
              try with_reducible rfl
            try simp only [Act.put, List.setIfInBounds_toArray, List.set_cons_zero, List.set_cons_succ]
            refine wpAnyH_take (i := 16) (v := ?_) (by simp only [List.getElem?_toArray, List.getElem?_cons_succ, List.getElem?_cons_zero]; rfl) (by kernel_rfl) (by kernel_rfl) (by kernel_rfl) (fun _ _ _ h => h) (Or.inl ⟨by rfl, ?_⟩) (by assumption) ?_
            rotate_left
            · intro W hSW
              go_simp
              try with_reducible rfl
            try simp only [Act.put, List.setIfInBounds_toArray, List.set_cons_zero, List.set_cons_succ]
            refine wpAnyH_done (by kernel_rfl) ?_ _
            refine NoPanic.normal ?_
            clear hHeld hwq hvq
            have HBV := Lib.hid (HB.out.drew.trans (HFV.out.mono (HOD.out.1.2.elim (fun h => by cases h.1) (fun _ => Nat.le_trans HBG.out (Nat.le_of_lt HOD.out.row.2.2.1)))))
            go_wp2_with fail
            refine ⟨⟨k + 1, i + 1, by first | rw [WK.out _ rfl] | rfl, HI1.out, .inr HK2.out, ?_, HBV.out⟩, by have := HI2.out; (first | rw [WK.out _ rfl] | skip); simp [intOf]; omega⟩
            rw [block_step B (k + 1) y HY.out, HXE.out, hR]
            have h := HOV.out
            rw [ins_end ltT_swo HX.out y (t + 1) HT.out HSTOP.out HSEEN.out] at h
            exact h

          · have hcl : Lib.compareBytes (keyT y) (keyT x) < 0 := of_decide_eq_true hl
            have hwq := HWQ.out
            have hvq := HVQ.out
            go_wp2_with fail
            refine wp_region_noPanic ?_
            refine wp_region_held_drew (S := fun W => W.rangeAt g (q * 22) (entL y) ∧ W.rangeAt g (p * 22) (entL x)) (by kernel_rfl) ?_ (fun hHeld => ?_)
            · exact ⟨HRy.out, HRx.out⟩
            refine wpAnyH_take (i := 0) (v := ?_) (by simp only [List.getElem?_toArray, List.getElem?_cons_zero]; rfl) (by kernel_rfl) (by kernel_rfl) (by kernel_rfl) (fun _ _ _ h => h) (Or.inl ⟨by rfl, ?_⟩) (by assumption) ?_
            rotate_left
            · intro W hSW
              go_simp
              try with_reducible rfl
            try simp only [Act.put, List.setIfInBounds_toArray, List.set_cons_zero, List.set_cons_succ]
            refine wpAnyH_take (i := 1) (v := ?_) (by simp only [List.getElem?_toArray, List.getElem?_cons_succ, List.getElem?_cons_zero]; rfl) (by kernel_rfl) (by kernel_rfl) (by kernel_rfl) (fun _ _ _ h => h) (Or.inl ⟨by rfl, ?_⟩) (by assumption) ?_
            rotate_left
            · intro W hSW
              go_simp
              try with_reducible rfl
            try simp only [Act.put, List.setIfInBounds_toArray, List.set_cons_zero, List.set_cons_succ]
            refine wpAnyH_take (i := 2) (v := ?_) (by simp only [List.getElem?_toArray, List.getElem?_cons_succ, List.getElem?_cons_zero]; rfl) (by kernel_rfl) (by kernel_rfl) (by kernel_rfl) (fun _ _ _ h => h) (Or.inl ⟨by rfl, ?_⟩) (by assumption) ?_
            rotate_left
            · intro W hSW
              go_simp
              try with_reducible rfl
            try simp only [Act.put, List.setIfInBounds_toArray, List.set_cons_zero, List.set_cons_succ]
            refine wpAnyH_take (i := 3) (v := ?_) (by simp only [List.getElem?_toArray, List.getElem?_cons_succ, List.getElem?_cons_zero]; rfl) (by kernel_rfl) (by kernel_rfl) (by kernel_rfl) (fun _ _ _ h => h) (Or.inl ⟨by rfl, ?_⟩) (by assumption) ?_
            rotate_left
            · intro W hSW
              go_simp
              try with_reducible rfl
            try simp only [Act.put, List.setIfInBounds_toArray, List.set_cons_zero, List.set_cons_succ]
            refine wpAnyH_take (i := 4) (v := ?_) (by simp only [List.getElem?_toArray, List.getElem?_cons_succ, List.getElem?_cons_zero]; rfl) (by kernel_rfl) (by kernel_rfl) (by kernel_rfl) (fun _ _ _ h => h) (Or.inl ⟨by rfl, ?_⟩) (by assumption) ?_
            rotate_left
            · intro W hSW
              go_simp
              try with_reducible rfl
            try simp only [Act.put, List.setIfInBounds_toArray, List.set_cons_zero, List.set_cons_succ]
            refine wpAnyH_take (i := 5) (v := ?_) (by simp only [List.getElem?_toArray, List.getElem?_cons_succ, List.getElem?_cons_zero]; rfl) (by kernel_rfl) (by kernel_rfl) (by kernel_rfl) (fun _ _ _ h => h) (Or.inl ⟨by rfl, ?_⟩) (by assumption) ?_
            rotate_left
            · intro W hSW
              go_simp
              try with_reducible rfl
            try simp only [Act.put, List.setIfInBounds_toArray, List.set_cons_zero, List.set_cons_succ]
            refine wpAnyH_take (i := 6) (v := ?_) (by simp only [List.getElem?_toArray, List.getElem?_cons_succ, List.getElem?_cons_zero]; rfl) (by kernel_rfl) (by kernel_rfl) (by kernel_rfl) (fun _ _ _ h => h) (Or.inl ⟨by rfl, ?_⟩) (by assumption) ?_
            rotate_left
            · intro W hSW
              go_simp
              try with_reducible rfl
            try simp only [Act.put, List.setIfInBounds_toArray, List.set_cons_zero, List.set_cons_succ]
            refine wpAnyH_take (i := 7) (v := ?_) (by simp only [List.getElem?_toArray, List.getElem?_cons_succ, List.getElem?_cons_zero]; rfl) (by kernel_rfl) (by kernel_rfl) (by kernel_rfl) (fun _ _ _ h => h) (Or.inl ⟨by rfl, ?_⟩) (by assumption) ?_
            rotate_left
            · intro W hSW
              go_simp
              try with_reducible rfl
            try simp only [Act.put, List.setIfInBounds_toArray, List.set_cons_zero, List.set_cons_succ]
            refine wpAnyH_take (i := 8) (by simp only [List.getElem?_toArray, List.getElem?_cons_succ, List.getElem?_cons_zero]; rfl) (by kernel_rfl) (by kernel_rfl) (by kernel_rfl) (fun _ _ _ h => h) (yieldsIf_load_mid (by rfl) 30 _ rfl g (q * 22) rfl (entL y) _ (fun W h => h.1) Tryd.underlying30 rfl (ent_infoL y Hy.out)) (by assumption) ?_
            try simp only [Act.put, List.setIfInBounds_toArray, List.set_cons_zero, List.set_cons_succ]
            refine wpAnyH_take (i := 9) (v := ?_) (by simp only [List.getElem?_toArray, List.getElem?_cons_succ, List.getElem?_cons_zero]; rfl) (by kernel_rfl) (by kernel_rfl) (by kernel_rfl) (fun _ _ _ h => h) (Or.inl ⟨by rfl, ?_⟩) (by assumption) ?_
            rotate_left
            · intro W hSW
              go_simp
              try with_reducible rfl
            try simp only [Act.put, List.setIfInBounds_toArray, List.set_cons_zero, List.set_cons_succ]
            refine wpAnyH_take (i := 10) (v := ?_) (by simp only [List.getElem?_toArray, List.getElem?_cons_succ, List.getElem?_cons_zero]; rfl) (by kernel_rfl) (by kernel_rfl) (by kernel_rfl) (fun _ _ _ h => h) (Or.inl ⟨by rfl, ?_⟩) (by assumption) ?_
            rotate_left
            · intro W hSW
              go_simp
              try with_reducible rfl
            try simp only [Act.put, List.setIfInBounds_toArray, List.set_cons_zero, List.set_cons_succ]
            refine wpAnyH_take (i := 11) (v := ?_) (by simp only [List.getElem?_toArray, List.getElem?_cons_succ, List.getElem?_cons_zero]; rfl) (by kernel_rfl) (by kernel_rfl) (by kernel_rfl) (fun _ _ _ h => h) (Or.inl ⟨by rfl, ?_⟩) (by assumption) ?_
            rotate_left
            · intro W hSW
              go_simp
              try with_reducible rfl
            try simp only [Act.put, List.setIfInBounds_toArray, List.set_cons_zero, List.set_cons_succ]
            refine wpAnyH_take (i := 12) (v := ?_) (by simp only [List.getElem?_toArray, List.getElem?_cons_succ, List.getElem?_cons_zero]; rfl) (by kernel_rfl) (by kernel_rfl) (by kernel_rfl) (fun _ _ _ h => h) (Or.inl ⟨by rfl, ?_⟩) (by assumption) ?_
            rotate_left
            · intro W hSW
              go_simp
              try with_reducible rfl
            try simp only [Act.put, List.setIfInBounds_toArray, List.set_cons_zero, List.set_cons_succ]
            refine wpAnyH_take (i := 13) (by simp only [List.getElem?_toArray, List.getElem?_cons_succ, List.getElem?_cons_zero]; rfl) (by kernel_rfl) (by kernel_rfl) (by kernel_rfl) (fun _ _ _ h => h) (yieldsIf_load_mid (by rfl) 30 _ rfl g (p * 22) rfl (entL x) _ (fun W h => h.2) Tryd.underlying30 rfl (ent_infoL x Hx.out)) (by assumption) ?_
            try simp only [Act.put, List.setIfInBounds_toArray, List.set_cons_zero, List.set_cons_succ]
            refine wpAnyH_ready (rs := [14]) (by kernel_rfl) (by simp) ?_
            refine AllReadyH.cons (by simp only [List.getElem?_toArray, List.getElem?_cons_succ, List.getElem?_cons_zero]; rfl) (fun K hK => ?_) AllReadyH.nil
            go_simp
            refine (compare_any y x Hy.out Hyp.out Hx.out Hxp.out _).mono ?_
            rintro e v1 ⟨rfl, hb⟩
            have HFV := Lib.hid hb
            have HOV := Lib.hid (HOD.out.below hb)
            clear hb
            go_wp2_with fail
            refine hK.out _ _ (⟨HOV.out.row.2.2.2.1 q y HQY.out, HOV.out.row.2.2.2.1 p x HPX.out⟩) (fun hHeld2 => ?_)
            clear hK K hHeld
            have hHeld := hHeld2
            clear hHeld2
            try simp only [Act.put, List.setIfInBounds_toArray, List.set_cons_zero, List.set_cons_succ]
            refine wpAnyH_take (i := 15) (v := ?_) (by simp only [List.getElem?_toArray, List.getElem?_cons_succ, List.getElem?_cons_zero]; rfl) (by kernel_rfl) (by kernel_rfl) (by kernel_rfl) (fun _ _ _ h => h) (Or.inl ⟨by rfl, ?_⟩) (by assumption) ?_
            rotate_left
            · intro W hSW
              go_simp
              try with_reducible rfl
            try simp only [Act.put, List.setIfInBounds_toArray, List.set_cons_zero, List.set_cons_succ]
            refine wpAnyH_take (i := 16) (v := ?_) (by simp only [List.getElem?_toArray, List.getElem?_cons_succ, List.getElem?_cons_zero]; rfl) (by kernel_rfl) (by kernel_rfl) (by kernel_rfl) (fun _ _ _ h => h) (Or.inl ⟨by rfl, ?_⟩) (by assumption) ?_
            rotate_left
            · intro W hSW
              go_simp
              try with_reducible rfl
            try simp only [Act.put, List.setIfInBounds_toArray, List.set_cons_zero, List.set_cons_succ]
            refine wpAnyH_done (by kernel_rfl) ?_ _
            refine NoPanic.normal ?_
            clear hHeld HRx HRy
            have HBV := Lib.hid (HB.out.drew.trans (HFV.out.mono (Nat.le_trans HBG.out (Nat.le_of_lt HOD.out.row.2.2.1))))
            have HOE : Hid (OwnE 30 v1.drew base (.slice (some ⟨g, 0, none⟩) n c) (A ++ (X.take (t + 1) ++ y :: (X.drop (t + 1) ++ R)))) := HOV.out.below (Below.refl _ _).drew
            have HRy : Hid (v1.drew.rangeAt g (q * 22) (entL y)) := HOE.out.row.2.2.2.1 q y HQY.out
            have HRx : Hid (v1.drew.rangeAt g (p * 22) (entL x)) := HOE.out.row.2.2.2.1 p x HPX.out
            have HT1 : Hid (v1.drew.there g (q * 22) (entA x).size) := by rw [entA_size x Hx.out]; exact HOE.out.row.2.2.2.2 q (List.getElem?_eq_some_iff.1 HQY.out).1
            have HO1 : Hid (OwnE 30 (v1.drew.setCells g (q * 22) (entA x).toList) base (.slice (some ⟨g, 0, none⟩) n c) ((A ++ (X.take (t + 1) ++ y :: (X.drop (t + 1) ++ R))).set q x)) := HOE.out.set (List.getElem?_eq_some_iff.1 HQY.out).1 Hx.out
            have HT2 : Hid ((v1.drew.setCells g (q * 22) (entA x).toList).there g (p * 22) (entA y).size) := by rw [entA_size y Hy.out]; exact HO1.out.row.2.2.2.2 p (by rw [List.length_set]; exact (List.getElem?_eq_some_iff.1 HPX.out).1)
            have HO2 : Hid (OwnE 30 ((v1.drew.setCells g (q * 22) (entA x).toList).setCells g (p * 22) (entA y).toList) base (.slice (some ⟨g, 0, none⟩) n c) (A ++ (X.take t ++ y :: (X.drop t ++ R)))) := by
              have h1 := HO1.out.set (k := p) (by rw [List.length_set]; exact (List.getElem?_eq_some_iff.1 HPX.out).1) Hy.out
              rw [← swap_val HQY.out HPX.out] at h1
              have h2 := walk_back A X R y t (by have := HT.out; omega)
              rw [HA.out, hp, ← HPQ.out] at h2
              rw [h2] at h1
              exact h1
            have HB2 : Hid (Below base w ((v1.drew.setCells g (q * 22) (entA x).toList).setCells g (p * 22) (entA y).toList)) := below_setCellsE g HBG.out _ _ _ (below_setCellsE g HBG.out _ _ _ HBV.out.drew)
            go_wp2_with fail
            refine wp_region_noPanic ?_
            refine wp_region_held_drew (S := fun _ => True) (by kernel_rfl) ?_ (fun hHeld => ?_)
            · exact True.intro
            refine wpAnyH_take (i := 0) (v := ?_) (by simp only [List.getElem?_toArray, List.getElem?_cons_zero]; rfl) (by kernel_rfl) (by kernel_rfl) (by kernel_rfl) (fun _ _ _ h => h) (Or.inl ⟨by rfl, ?_⟩) (by assumption) ?_
            rotate_left
            · intro W hSW
              go_simp
              try with_reducible rfl
            try simp only [Act.put, List.setIfInBounds_toArray, List.set_cons_zero, List.set_cons_succ]
            refine wpAnyH_take (i := 1) (v := ?_) (by simp only [List.getElem?_toArray, List.getElem?_cons_succ, List.getElem?_cons_zero]; rfl) (by kernel_rfl) (by kernel_rfl) (by kernel_rfl) (fun _ _ _ h => h) (Or.inl ⟨by rfl, ?_⟩) (by assumption) ?_
            rotate_left
            · intro W hSW
              go_simp
              try with_reducible rfl
            try simp only [Act.put, List.setIfInBounds_toArray, List.set_cons_zero, List.set_cons_succ]
            refine wpAnyH_take (i := 2) (v := ?_) (by simp only [List.getElem?_toArray, List.getElem?_cons_succ, List.getElem?_cons_zero]; rfl) (by kernel_rfl) (by kernel_rfl) (by kernel_rfl) (fun _ _ _ h => h) (Or.inl ⟨by rfl, ?_⟩) (by assumption) ?_
            rotate_left
            · intro W hSW
              go_simp
              try with_reducible rfl
            try simp only [Act.put, List.setIfInBounds_toArray, List.set_cons_zero, List.set_cons_succ]
            refine wpAnyH_take (i := 3) (v := ?_) (by simp only [List.getElem?_toArray, List.getElem?_cons_succ, List.getElem?_cons_zero]; rfl) (by kernel_rfl) (by kernel_rfl) (by kernel_rfl) (fun _ _ _ h => h) (Or.inl ⟨by rfl, ?_⟩) (by assumption) ?_
            rotate_left
            · intro W hSW
              go_simp
              try with_reducible rfl
            try simp only [Act.put, List.setIfInBounds_toArray, List.set_cons_zero, List.set_cons_succ]
            refine wpAnyH_take (i := 4) (v := ?_) (by simp only [List.getElem?_toArray, List.getElem?_cons_succ, List.getElem?_cons_zero]; rfl) (by kernel_rfl) (by kernel_rfl) (by kernel_rfl) (fun _ _ _ h => h) (Or.inl ⟨by rfl, ?_⟩) (by assumption) ?_
            rotate_left
            · intro W hSW
              go_simp
              try with_reducible rfl
            try simp only [Act.put, List.setIfInBounds_toArray, List.set_cons_zero, List.set_cons_succ]
            refine wpAnyH_take (i := 5) (v := ?_) (by simp only [List.getElem?_toArray, List.getElem?_cons_succ, List.getElem?_cons_zero]; rfl) (by kernel_rfl) (by kernel_rfl) (by kernel_rfl) (fun _ _ _ h => h) (Or.inl ⟨by rfl, ?_⟩) (by assumption) ?_
            rotate_left
            · intro W hSW
              go_simp
              try with_reducible rfl
            try simp only [Act.put, List.setIfInBounds_toArray, List.set_cons_zero, List.set_cons_succ]
            refine wpAnyH_take (i := 6) (v := ?_) (by simp only [List.getElem?_toArray, List.getElem?_cons_succ, List.getElem?_cons_zero]; rfl) (by kernel_rfl) (by kernel_rfl) (by kernel_rfl) (fun _ _ _ h => h) (Or.inl ⟨by rfl, ?_⟩) (by assumption) ?_
            rotate_left
            · intro W hSW
              go_simp
              try with_reducible rfl
            try simp only [Act.put, List.setIfInBounds_toArray, List.set_cons_zero, List.set_cons_succ]
            refine wpAnyH_take (i := 7) (v := ?_) (by simp only [List.getElem?_toArray, List.getElem?_cons_succ, List.getElem?_cons_zero]; rfl) (by kernel_rfl) (by kernel_rfl) (by kernel_rfl) (fun _ _ _ h => h) (Or.inl ⟨by rfl, ?_⟩) (by assumption) ?_
            rotate_left
            · intro W hSW
              go_simp
              try with_reducible rfl
            try simp only [Act.put, List.setIfInBounds_toArray, List.set_cons_zero, List.set_cons_succ]
            refine wpAnyH_take (i := 8) (v := ?_) (by simp only [List.getElem?_toArray, List.getElem?_cons_succ, List.getElem?_cons_zero]; rfl) (by kernel_rfl) (by kernel_rfl) (by kernel_rfl) (fun _ _ _ h => h) (Or.inl ⟨by rfl, ?_⟩) (by assumption) ?_
            rotate_left
            · intro W hSW
              go_simp
              try with_reducible rfl
            try simp only [Act.put, List.setIfInBounds_toArray, List.set_cons_zero, List.set_cons_succ]
            refine wpAnyH_take (i := 10) (v := ?_) (by simp only [List.getElem?_toArray, List.getElem?_cons_succ, List.getElem?_cons_zero]; rfl) (by kernel_rfl) (by kernel_rfl) (by kernel_rfl) (fun _ _ _ h => h) (Or.inl ⟨by rfl, ?_⟩) (by assumption) ?_
            rotate_left
            · intro W hSW
              go_simp
              try with_reducible rfl
            try simp only [Act.put, List.setIfInBounds_toArray, List.set_cons_zero, List.set_cons_succ]
            refine wpAnyH_take (i := 11) (v := ?_) (by simp only [List.getElem?_toArray, List.getElem?_cons_succ, List.getElem?_cons_zero]; rfl) (by kernel_rfl) (by kernel_rfl) (by kernel_rfl) (fun _ _ _ h => h) (Or.inl ⟨by rfl, ?_⟩) (by assumption) ?_
            rotate_left
            · intro W hSW
              go_simp
              try with_reducible rfl
            try simp only [Act.put, List.setIfInBounds_toArray, List.set_cons_zero, List.set_cons_succ]
            refine wpAnyH_take (i := 12) (v := ?_) (by simp only [List.getElem?_toArray, List.getElem?_cons_succ, List.getElem?_cons_zero]; rfl) (by kernel_rfl) (by kernel_rfl) (by kernel_rfl) (fun _ _ _ h => h) (Or.inl ⟨by rfl, ?_⟩) (by assumption) ?_
            rotate_left
            · intro W hSW
              go_simp
              try with_reducible rfl
            try simp only [Act.put, List.setIfInBounds_toArray, List.set_cons_zero, List.set_cons_succ]
            refine wpAnyH_ready (rs := [9, 13]) (by kernel_rfl) (by simp) ?_
            refine AllReadyH.cons (by simp only [List.getElem?_toArray, List.getElem?_cons_succ, List.getElem?_cons_zero]; rfl) (fun K hK => ?_) (AllReadyH.cons (by simp only [List.getElem?_toArray, List.getElem?_cons_succ, List.getElem?_cons_zero]; rfl) (fun K hK => ?_) AllReadyH.nil)
            · refine step_load_mid (by rfl) 30 _ rfl g (p * 22) rfl (entL x) _ (HRx.out) Tryd.underlying30 rfl (ent_infoL x Hx.out) ?_
              refine hK.out _ _ (True.intro) (fun hHeld2 => ?_)
              clear hK K hHeld
              have hHeld := hHeld2
              clear hHeld2
              try simp only [Act.put, List.setIfInBounds_toArray, List.set_cons_zero, List.set_cons_succ]
              refine wpAnyH_ready (rs := [13]) (by kernel_rfl) (by simp) ?_
              refine AllReadyH.cons (by simp only [List.getElem?_toArray, List.getElem?_cons_succ, List.getElem?_cons_zero]; rfl) (fun K hK => ?_) AllReadyH.nil
              refine step_load_mid (by rfl) 30 _ rfl g (q * 22) rfl (entL y) _ (HRy.out) Tryd.underlying30 rfl (ent_infoL y Hy.out) ?_
              refine hK.out _ _ (True.intro) (fun hHeld2 => ?_)
              clear hK K hHeld
              have hHeld := hHeld2
              clear hHeld2
              try simp only [Act.put, List.setIfInBounds_toArray, List.set_cons_zero, List.set_cons_succ]
              refine wpAnyH_take (i := 14) (v := ?_) (by simp only [List.getElem?_toArray, List.getElem?_cons_succ, List.getElem?_cons_zero]; rfl) (by kernel_rfl) (by kernel_rfl) (by kernel_rfl) (fun _ _ _ h => h) (Or.inl ⟨by rfl, ?_⟩) (by assumption) ?_
              rotate_left
              · intro W hSW
                go_simp
                try with_reducible rfl
              try simp only [Act.put, List.setIfInBounds_toArray, List.set_cons_zero, List.set_cons_succ]
              refine wpAnyH_ready (rs := [15]) (by kernel_rfl) (by simp) ?_
              refine AllReadyH.cons (by simp only [List.getElem?_toArray, List.getElem?_cons_succ, List.getElem?_cons_zero]; rfl) (fun K hK => ?_) AllReadyH.nil
              refine step_store_mid (by rfl) 30 _ _ rfl g (q * 22) (entA x) rfl rfl HT1.out (ent_info x Hx.out) (entA_one x) ?_
              refine hK.out _ _ (True.intro) (fun hHeld2 => ?_)
              clear hK K hHeld
              have hHeld := hHeld2
              clear hHeld2
              try simp only [Act.put, List.setIfInBounds_toArray, List.set_cons_zero, List.set_cons_succ]
              refine wpAnyH_take (i := 16) (v := ?_) (by simp only [List.getElem?_toArray, List.getElem?_cons_succ, List.getElem?_cons_zero]; rfl) (by kernel_rfl) (by kernel_rfl) (by kernel_rfl) (fun _ _ _ h => h) (Or.inl ⟨by rfl, ?_⟩) (by assumption) ?_
              rotate_left
              · intro W hSW
                go_simp
                try with_reducible rfl
              try simp only [Act.put, List.setIfInBounds_toArray, List.set_cons_zero, List.set_cons_succ]
              refine wpAnyH_ready (rs := [17]) (by kernel_rfl) (by simp) ?_
              refine AllReadyH.cons (by simp only [List.getElem?_toArray, List.getElem?_cons_succ, List.getElem?_cons_zero]; rfl) (fun K hK => ?_) AllReadyH.nil
              refine step_store_mid (by rfl) 30 _ _ rfl g (p * 22) (entA y) rfl rfl HT2.out (ent_info y Hy.out) (entA_one y) ?_
              refine hK.out _ _ (True.intro) (fun hHeld2 => ?_)
              clear hK K hHeld
              have hHeld := hHeld2
              clear hHeld2
              try simp only [Act.put, List.setIfInBounds_toArray, List.set_cons_zero, List.set_cons_succ]
              refine wpAnyH_done (by kernel_rfl) ?_ _
              refine NoPanic.normal ?_
              clear hHeld
              go_wp2_with fail
              exact ⟨⟨t, p, by first | rw [HWQ.out] | rfl, hp, by have := HT.out; omega, (fun z hz => by rw [HXT.out] at hz; cases hz; exact hl), HO2.out, HB2.out⟩, by have := HPQ.out; (first | rw [HWQ.out] | skip); simp [intOf]; omega⟩
            · refine step_load_mid (by rfl) 30 _ rfl g (q * 22) rfl (entL y) _ (HRy.out) Tryd.underlying30 rfl (ent_infoL y Hy.out) ?_
              refine hK.out _ _ (True.intro) (fun hHeld2 => ?_)
              clear hK K hHeld
              have hHeld := hHeld2
              clear hHeld2
              try simp only [Act.put, List.setIfInBounds_toArray, List.set_cons_zero, List.set_cons_succ]
              refine wpAnyH_ready (rs := [9]) (by kernel_rfl) (by simp) ?_
              refine AllReadyH.cons (by simp only [List.getElem?_toArray, List.getElem?_cons_succ, List.getElem?_cons_zero]; rfl) (fun K hK => ?_) AllReadyH.nil
              refine step_load_mid (by rfl) 30 _ rfl g (p * 22) rfl (entL x) _ (HRx.out) Tryd.underlying30 rfl (ent_infoL x Hx.out) ?_
              refine hK.out _ _ (True.intro) (fun hHeld2 => ?_)
              clear hK K hHeld
              have hHeld := hHeld2
              clear hHeld2
              try simp only [Act.put, List.setIfInBounds_toArray, List.set_cons_zero, List.set_cons_succ]
              refine wpAnyH_take (i := 14) (v := ?_) (by simp only [List.getElem?_toArray, List.getElem?_cons_succ, List.getElem?_cons_zero]; rfl) (by kernel_rfl) (by kernel_rfl) (by kernel_rfl) (fun _ _ _ h => h) (Or.inl ⟨by rfl, ?_⟩) (by assumption) ?_
              rotate_left
              · intro W hSW
                go_simp
                try with_reducible rfl
              try simp only [Act.put, List.setIfInBounds_toArray, List.set_cons_zero, List.set_cons_succ]
              refine wpAnyH_ready (rs := [15]) (by kernel_rfl) (by simp) ?_
              refine AllReadyH.cons (by simp only [List.getElem?_toArray, List.getElem?_cons_succ, List.getElem?_cons_zero]; rfl) (fun K hK => ?_) AllReadyH.nil
              refine step_store_mid (by rfl) 30 _ _ rfl g (q * 22) (entA x) rfl rfl HT1.out (ent_info x Hx.out) (entA_one x) ?_
              refine hK.out _ _ (True.intro) (fun hHeld2 => ?_)
              clear hK K hHeld
              have hHeld := hHeld2
              clear hHeld2
              try simp only [Act.put, List.setIfInBounds_toArray, List.set_cons_zero, List.set_cons_succ]
              refine wpAnyH_take (i := 16) (v := ?_) (by simp only [List.getElem?_toArray, List.getElem?_cons_succ, List.getElem?_cons_zero]; rfl) (by kernel_rfl) (by kernel_rfl) (by kernel_rfl) (fun _ _ _ h => h) (Or.inl ⟨by rfl, ?_⟩) (by assumption) ?_
              rotate_left
              · intro W hSW
                go_simp
                try with_reducible rfl
              try simp only [Act.put, List.setIfInBounds_toArray, List.set_cons_zero, List.set_cons_succ]
              refine wpAnyH_ready (rs := [17]) (by kernel_rfl) (by simp) ?_
              refine AllReadyH.cons (by simp only [List.getElem?_toArray, List.getElem?_cons_succ, List.getElem?_cons_zero]; rfl) (fun K hK => ?_) AllReadyH.nil
              refine step_store_mid (by rfl) 30 _ _ rfl g (p * 22) (entA y) rfl rfl HT2.out (ent_info y Hy.out) (entA_one y) ?_
              refine hK.out _ _ (True.intro) (fun hHeld2 => ?_)
              clear hK K hHeld
              have hHeld := hHeld2
              clear hHeld2
              try simp only [Act.put, List.setIfInBounds_toArray, List.set_cons_zero, List.set_cons_succ]
              refine wpAnyH_done (by kernel_rfl) ?_ _
              refine NoPanic.normal ?_
              clear hHeld
              go_wp2_with fail
              exact ⟨⟨t, p, by first | rw [HWQ.out] | rfl, hp, by have := HT.out; omega, (fun z hz => by rw [HXT.out] at hz; cases hz; exact hl), HO2.out, HB2.out⟩, by have := HPQ.out; (first | rw [HWQ.out] | skip); simp [intOf]; omega⟩
    · have hki : ¬ (i : Int) < (b : Int) := by omega
      have HE : Hid (sortS ltT (B.take (k + 1)) ++ (B.drop (k + 1) ++ C) = sortS ltT B ++ C) := by
        show _ = _
        have := HBL.out
        rw [List.take_of_length_le (by rcases HK.out with h | h <;> omega), List.drop_eq_nil_of_le (by rcases HK.out with h | h <;> omega)]
        rfl
      clear hkb hik
      go_wp2_with fail
      refine bodyPost_end (results_none rfl _ _ _) rfl ?_
      exact ⟨rfl, by rw [← HE.out]; exact HO0.out, HB0.out⟩
end Go.Proofs.YthemolkmciofaaaDoor
