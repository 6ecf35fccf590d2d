/- The document's Open: the walk. -/
import Derived.Test.YtglgchjkonjpiaaGreatDoorOpen
import Derived.Test.YtglgchjkonjpiaaGreatDoorRefRaw
import Derived.BigQuiet
namespace Go.Proofs.YtglgchjkonjpiaaGreatDoor
open Go.RowKit Plain
set_option linter.unusedVariables false
theorem wpAnyH_weaken {P : Program} {md : Region.Mode} {ops : Array Oper} {Q : Exit → Act → World → Prop} {S1 S2 : World → Prop} (h : ∀ w, S2 w → S1 w) :
    ∀ (fuel : Nat) (listed : Array Bool) (a : Act) (w : World), wpAnyH P md ops Q S2 fuel listed a w → wpAnyH P md ops Q S1 fuel listed a w
  | 0, _, _, _, hw => hw
  | fuel + 1, _, _, _, hw => ⟨hw.1, fun i hi => wpOp_mono (fun a' w' h' => ⟨h _ h'.1, wpAnyH_weaken h fuel _ a' w' h'.2⟩) (hw.2 i hi)⟩
/-- Both calls hand back the same bytes. -/
def SameBytes (f g : Nat) (args : Array Value) : Prop := ∃ xs : List Int,
  (∀ w : World, Calls Tryz.prog f args w fun e w' => (∃ a k c, e = .returned (.slice a k c) ∧ Bytes w' a k xs) ∧ Below w.heap.size w w') ∧
  (∀ w : World, Calls Tryz.prog g args w fun e w' => (∃ a k c, e = .returned (.slice a k c) ∧ Bytes w' a k xs) ∧ Below w.heap.size w w')
theorem wrap6 (n1 o4 : Nat) (h : 6 + n1 = o4) (ho : o4 ≤ 2000000000) : (∀ x : Int, x = 6 + (n1 : Int) → wrap64 x = (o4 : Int)) ∧ (∀ x : Int, x = 6 + (n1 : Int) → IntKind.i64.wrap x = (o4 : Int)) ∧ wrap64 ((n1 : Int) + 6) = (o4 : Int) ∧ (∀ x : Int, x = (n1 : Int) + 6 → wrap64 x = (o4 : Int)) := by
  have e : 6 + (n1 : Int) = (o4 : Int) := by omega
  have e2 : (n1 : Int) + 6 = (o4 : Int) := by omega
  exact ⟨fun x hx => by rw [hx, e]; exact IntWalk.wrap64_in _ (by omega), fun x hx => by rw [hx, e]; exact IntWalk.i64_in _ (by omega), by rw [e2]; exact IntWalk.wrap64_in _ (by omega), fun x hx => by rw [hx, e2]; exact IntWalk.wrap64_in _ (by omega)⟩
theorem front_cases {x y : Int} : frontN x y = true → x % 16 = 8 ∧ x / 16 ≤ 7 ∧ y / 32 % 2 = 0 ∧ (256 * x + y) % 31 = 0 := fun h => by
  unfold frontN at h
  simpa using h
theorem front_false {x y : Int} (h : frontN x y = false) : (¬ x % 16 = 8 ∧ (x % 16 != 8) = true) ∨ (x % 16 = 8 ∧ ¬ x / 16 ≤ 7 ∧ 7 < x / 16) ∨ (x % 16 = 8 ∧ x / 16 ≤ 7 ∧ y / 32 % 2 = 1 ∧ True) ∨ (x % 16 = 8 ∧ x / 16 ≤ 7 ∧ y / 32 % 2 = 0 ∧ ¬ (256 * x + y) % 31 = 0 ∧ ((256 * x + y) % 31 != 0) = true) := by
  unfold frontN at h
  simp at h
  by_cases h1 : x % 16 = 8
  · by_cases h2 : x / 16 ≤ 7
    · by_cases h3 : y / 32 % 2 = 0
      · exact .inr (.inr (.inr ⟨h1, h2, h3, h h1 h2 h3, by simpa using h h1 h2 h3⟩))
      · exact .inr (.inr (.inl ⟨h1, h2, by omega, trivial⟩))
    · exact .inr (.inl ⟨h1, h2, by omega⟩)
  · exact .inl ⟨h1, by simpa using h1⟩
theorem bytes_mem {w : World} {a : Option Addr} {n : Nat} {xs : List Int} (h : Bytes w a n xs) : ∀ x ∈ xs, 0 ≤ x ∧ x ≤ 255 := fun x hx => by
  obtain ⟨j, hj, rfl⟩ := List.mem_iff_getElem.1 hx
  have := h.2.2.1 j
  rwa [List.getElem?_eq_getElem hj] at this
theorem openQ_err {w w' : World} {most k : Nat} {bs : List Int} (h : openN bs most = .error k) (hk : k ≠ 0) (hb : Below w.heap.size w w') (K : Int) (hK : K = (k : Int)) : OpenQ w most bs (.returned (.tuple #[.slice none 0 0, .int .i64 0, .int .i64 K])) w' := by
  subst hK
  exact .inr ⟨k, h, hk, rfl, hb⟩
theorem openQ_ok {w w' : World} {most o4 : Nat} {bs m : List Int} {ya : Option Addr} {yc : Nat} (h : openN bs most = .ok (o4, m)) (hy : RowB w' ya m.length yc m) (hm : m.length ≤ most) (hb : Below w.heap.size w w') (hn : o4 ≤ bs.length) (K : Int) (hK : K = (o4 : Int)) : OpenQ w most bs (.returned (.tuple #[.slice ya m.length yc, .int .i64 K, .int .i64 0])) w' := by
  subst hK
  exact .inl ⟨o4, m, ya, yc, h, rfl, hy, hm, hb, hn⟩
set_option maxRecDepth 100000 in
set_option maxHeartbeats 8000000 in
theorem refOpen_any (a : Option Addr) (n c : Nat) (bs : List Int) (M : Int) (most : Nat) (w : World) (H : RowB w a n c bs) (hn : n ≤ 1000000000) (hM : most = M.toNat) (hm : M ≤ 1000000000) :
    Calls Tryz.prog 35 #[.slice a n c, .int .i64 M] w (OpenQ w most bs) := by
  have hl := H.len
  by_cases h2 : n < 2
  · have h2i : (n : Int) < 2 := by omega
    have HQ : Hid (openN bs most = .error 3) := by show _ = _; rw [openN, if_pos (by omega)]
    clear H hl
    go_enter Tryz.func35, Tryz.ntmps35
    go_wp2_with fail
    go_ret3
    exact openQ_err HQ.out (by omega) (Below.refl _ _) _ rfl
  · have h2i : ¬ (n : Int) < 2 := by omega
    obtain ⟨b, off, rfl, hc⟩ : ∃ b off, a = some ⟨b, off, none⟩ ∧ ∀ j, j < n → w.cell? ⟨b, off + j, none⟩ = some (.int .u8 (bs[j]?.getD 0)) := by
      rcases H.bytes.2.2.2 with h | ⟨b, off, h⟩
      · omega
      · exact ⟨b, off, h⟩
    have c0 := hc 0 (by omega)
    have c1 := hc 1 (by omega)
    rw [Nat.add_zero] at c0
    have hx := H.range 0
    have hy := H.range 1
    have HR := Lib.hid H
    have HOP : Hid (openN bs most = if frontN (bs[0]?.getD 0) (bs[1]?.getD 0) = false then .error 4 else openBehind bs (rawOf (bs.drop 2) most)) := by show _ = _; rw [openN, if_neg (by omega)]
    have HL := Lib.hid hl
    have h1n : (1 : Int) < (n : Int) := by omega
    have h0n : 0 < n := by omega
    have h0e : ¬ n = 0 := by omega
    clear hc H hl
    generalize bs[0]?.getD 0 = x at *
    generalize bs[1]?.getD 0 = y at *
    have hsl := fun W => slice_from (some ⟨b, off, none⟩) n c 2 (by omega) HR.out.le W
    have HSL2 : Hid (∀ W : World, (Instr.sliceAt 22 (.slice (some ⟨b, off, none⟩) n c) (some (.int .i64 2)) none none).run Tryz.prog W = .ok (.slice (subA (some ⟨b, off, none⟩) c 2) (n - 2) (c - 2)) W) := hsl
    clear hsl
    have hy2 : 0 ≤ y := by omega
    have hx2 : 0 ≤ x := by omega
    cases hf : frontN x y with
    | false =>
      have HQ : Hid (openN bs most = .error 4) := by show _ = _; rw [HOP.out, if_pos hf]
      have hff := front_false hf
      clear HOP hf
      rcases hff with ⟨h, g⟩ | ⟨h, h', g⟩ | ⟨h, h', h'', g⟩ | ⟨h, h', h'', h4, g⟩
      all_goals
        go_enter Tryz.func35, Tryz.ntmps35
        go_wp2_with fail
        go_quiet (fail)
        have HDB : Hid (Below w.heap.size w (w.drewN nq)) := below_drewN w nq
        generalize w.drewN nq = wd at *
        clear c0 c1
        go_wp2_with fail
        go_ret3
        exact openQ_err HQ.out (by omega) HDB.out _ rfl
    | true =>
      have HQ : Hid (openN bs most = openBehind bs (rawOf (bs.drop 2) most)) := by show _ = _; rw [HOP.out, if_neg (by simp [hf])]
      obtain ⟨f1, f2, f3, f4⟩ := front_cases hf
      clear HOP hf
      go_enter Tryz.func35, Tryz.ntmps35
      go_wp2_with fail
      go_quiet (fail)
      have HDB : Hid (Below w.heap.size w (w.drewN nq)) := below_drewN w nq
      generalize w.drewN nq = wd at *
      clear c0 c1
      have hsl2 := HSL2.out
      have HP := Lib.hid ((HR.out.below HDB.out).part 2 (by omega))
      go_wp2_with fail
      clear f1 f2 f3 f4 hsl2
      refine (rraw_row _ (n - 2) (c - 2) (bs.drop 2) M most wd HP.out (by omega) hM hm).mono ?_
      rintro e w3 (⟨q, m, ya, yc, hr, rfl, hrow, hmm, hb, -⟩ | ⟨k, hr, hk, rfl, hb⟩)
      · have hq := raw_last hr
        rw [List.length_drop, HL.out] at hq
        obtain ⟨n1, hn1⟩ : ∃ n1, (q + 7) / 8 = n1 := ⟨_, rfl⟩
        have hQ := HQ.out
        rw [hr, openBehind] at hQ
        rw [hn1, HL.out] at hQ
        rw [hn1]
        have HQ2 := Lib.hid hQ
        have hn2 : n1 ≤ n - 2 := by omega
        obtain ⟨o, ho⟩ : ∃ o, 2 + n1 = o := ⟨_, rfl⟩
        rw [ho] at HQ2
        have hon : o ≤ n := by omega
        have hon2 : o ≤ 1000000000 := by omega
        have HWO := Lib.hid (wrap_at n1 o ho (by omega))
        obtain ⟨o4, ho4⟩ : ∃ o4, o + 4 = o4 := ⟨_, rfl⟩
        have HWP := Lib.hid (wrap6 n1 o4 (by omega) (by omega))
        have HO6 : Hid ((n1 : Int) + 6 = (o4 : Int)) := by show _ = _; omega
        obtain ⟨rl, hrl⟩ : ∃ rl, n - o = rl := ⟨_, rfl⟩
        rw [hrl] at HQ2
        have hrn : o + rl = n := by omega
        have hrI : ((n : Int) - 2) - (n1 : Int) = (rl : Int) := by omega
        have HB3 : Hid (Below w.heap.size w w3) := HDB.out.trans (hb.mono HDB.out.size)
        have HY := Lib.hid hrow
        obtain ⟨ml, hml⟩ : ∃ ml, m.length = ml := ⟨_, rfl⟩
        rw [hml] at HY ⊢
        have HYB := Lib.hid HY.out.bytes
        have HML := Lib.hid hml
        have HMM : Hid (m.length ≤ most) := hmm
        clear hr hrow hb hq hn1 hQ HQ HP hml hmm hrl
        by_cases h4 : rl < 4
        · have h4i : (n : Int) - 2 - (n1 : Int) < 4 := by omega
          have h4j : decide ((n : Int) - 2 - (n1 : Int) < 4) = true := by simpa using h4i
          have HQ3 : Hid (openN bs most = .error 3) := by show _ = _; rw [HQ2.out, if_pos h4]
          clear hrI
          go_wp2_with fail
          go_ret3
          exact openQ_err HQ3.out (by omega) HB3.out _ rfl
        · have h4i : ¬ (n : Int) - 2 - (n1 : Int) < 4 := by omega
          have HQ3 : Hid (openN bs most = if (bs.drop o).take 4 ≠ tail4 m then .error 5 else .ok (o4, m)) := by show _ = _; rw [HQ2.out, if_neg h4, ho4]
          have hbp := HR.out.bytes.part c o o4 (by omega) (by omega) HR.out.le
          have h44 : o4 - o = 4 := by omega
          rw [h44] at hbp
          have hsl3 := fun W => slice_sub (some ⟨b, off, none⟩) n c o o4 (by omega) (by have := HR.out.le; omega) W
          rw [h44] at hsl3
          have hoo : (o : Int) ≤ (o4 : Int) := by omega
          have ho4n : o4 ≤ n := by omega
          obtain ⟨X, hX⟩ : ∃ X, (bs.drop o).take 4 = X := ⟨_, rfl⟩
          obtain ⟨T, hT⟩ : ∃ T, tail4 m = T := ⟨_, rfl⟩
          rw [hX] at hbp HQ3
          rw [hT] at HQ3
          have HX4 := Lib.hid (hbp.below HB3.out)
          have HT := Lib.hid hT
          have hTm := tail4_range m
          rw [hT] at hTm
          have hXm := bytes_mem hbp
          clear hX hT hbp HQ2 hrI h44 ho4 ho hrn
          by_cases hXT : X = T
          · subst hXT
            have HQ4 : Hid (openN bs most = .ok (o4, m)) := by show _ = _; rw [HQ3.out, if_neg (by simp)]
            clear HQ3 hTm hXm
            obtain ⟨hwo, hwo2⟩ := HWO.out
            obtain ⟨hwp, hwp2, hwp3, hwp4⟩ := HWP.out
            go_wp2_with fail
            refine wp_region_noPanic ?_
            refine wp_region_held_drew (S := fun W => Below w3.heap.size w3 W) (by kernel_rfl) ?_ (fun hHeld => ?_)
            · exact (Below.refl _ _).drew
            refine wpAnyH_take (i := 0) (v := ?_) (by simp only [List.getElem?_toArray, List.getElem?_cons_zero]; rfl) (by kernel_rfl) (by kernel_rfl) (by kernel_rfl) (fun _ _ _ h => h) (Or.inl ⟨by rfl, ?_⟩) (by assumption) ?_
            rotate_left
            · intro W hSW
              go_simp
              try with_reducible rfl
            try simp only [Act.put, List.setIfInBounds_toArray, List.set_cons_zero, List.set_cons_succ]
            refine wpAnyH_take (i := 1) (v := ?_) (by simp only [List.getElem?_toArray, List.getElem?_cons_succ, List.getElem?_cons_zero]; rfl) (by kernel_rfl) (by kernel_rfl) (by kernel_rfl) (fun _ _ _ h => h) (Or.inl ⟨by rfl, ?_⟩) (by assumption) ?_
            rotate_left
            · intro W hSW
              go_simp
              try with_reducible rfl
            try simp only [Act.put, List.setIfInBounds_toArray, List.set_cons_zero, List.set_cons_succ]
            refine wpAnyH_take (i := 2) (v := ?_) (by simp only [List.getElem?_toArray, List.getElem?_cons_succ, List.getElem?_cons_zero]; rfl) (by kernel_rfl) (by kernel_rfl) (by kernel_rfl) (fun _ _ _ h => h) (Or.inl ⟨by rfl, ?_⟩) (by assumption) ?_
            rotate_left
            · intro W hSW
              go_simp
              try with_reducible rfl
            try simp only [Act.put, List.setIfInBounds_toArray, List.set_cons_zero, List.set_cons_succ]
            refine wpAnyH_take (i := 3) (v := ?_) (by simp only [List.getElem?_toArray, List.getElem?_cons_succ, List.getElem?_cons_zero]; rfl) (by kernel_rfl) (by kernel_rfl) (by kernel_rfl) (fun _ _ _ h => h) (Or.inl ⟨by rfl, ?_⟩) (by assumption) ?_
            rotate_left
            · intro W hSW
              go_simp
              try with_reducible rfl
            try simp only [Act.put, List.setIfInBounds_toArray, List.set_cons_zero, List.set_cons_succ]
            refine wpAnyH_take (i := 4) (v := ?_) (by simp only [List.getElem?_toArray, List.getElem?_cons_succ, List.getElem?_cons_zero]; rfl) (by kernel_rfl) (by kernel_rfl) (by kernel_rfl) (fun _ _ _ h => h) (Or.inl ⟨by rfl, ?_⟩) (by assumption) ?_
            rotate_left
            · intro W hSW
              go_simp
              try with_reducible rfl
            try simp only [Act.put, List.setIfInBounds_toArray, List.set_cons_zero, List.set_cons_succ]
            refine wpAnyH_take (i := 5) (v := ?_) (by simp only [List.getElem?_toArray, List.getElem?_cons_succ, List.getElem?_cons_zero]; rfl) (by kernel_rfl) (by kernel_rfl) (by kernel_rfl) (fun _ _ _ h => h) (Or.inl ⟨by rfl, ?_⟩) (by assumption) ?_
            rotate_left
            · intro W hSW
              go_simp
              try with_reducible rfl
            try simp only [Act.put, List.setIfInBounds_toArray, List.set_cons_zero, List.set_cons_succ]
            refine wpAnyH_take (i := 6) (v := ?_) (by simp only [List.getElem?_toArray, List.getElem?_cons_succ, List.getElem?_cons_zero]; rfl) (by kernel_rfl) (by kernel_rfl) (by kernel_rfl) (fun _ _ _ h => h) (Or.inl ⟨by rfl, ?_⟩) (by assumption) ?_
            rotate_left
            · intro W hSW
              have tx := text_run W (subA (some ⟨b, off, none⟩) c o) 4 (c - o) X (HX4.out.below hSW)
              go_simp
              try with_reducible rfl
            try simp only [Act.put, List.setIfInBounds_toArray, List.set_cons_zero, List.set_cons_succ]
            refine wpAnyH_take (i := 7) (v := ?_) (by simp only [List.getElem?_toArray, List.getElem?_cons_succ, List.getElem?_cons_zero]; rfl) (by kernel_rfl) (by kernel_rfl) (by kernel_rfl) (fun _ _ _ h => h) (Or.inl ⟨by rfl, ?_⟩) (by assumption) ?_
            rotate_left
            · intro W hSW
              go_simp
              try with_reducible rfl
            try simp only [Act.put, List.setIfInBounds_toArray, List.set_cons_zero, List.set_cons_succ]
            refine wpAnyH_ready (rs := [8]) (by kernel_rfl) (by simp) ?_
            refine AllReadyH.cons (by simp only [List.getElem?_toArray, List.getElem?_cons_succ, List.getElem?_cons_zero]; rfl) (fun K hK => ?_) AllReadyH.nil
            go_simp
            refine (tail_any _ ya ml yc m (HYB.out.below (Below.refl _ _).drew)).mono ?_
            rintro e v1 ⟨⟨ta, rfl, ht⟩, hb⟩
            have hbb : Below w3.heap.size w3 v1 := (Below.refl _ _).drew.trans hb
            have HWv1 : Hid (Below w3.heap.size w3 v1) := hbb
            have HTA : Hid (Bytes v1 ta 4 X) := by show Bytes _ _ _ _; rw [← HT.out]; exact ht
            clear ht
            clear hb
            go_wp2_with fail
            refine hK.out _ _ hbb (fun hHeld2 => ?_)
            clear hK K hHeld hHeld2
            try simp only [Act.put, List.setIfInBounds_toArray, List.set_cons_zero, List.set_cons_succ]
            refine wpAnyH_weaken (S2 := fun W => Below v1.heap.size v1 W) (fun W hW => hbb.trans (Below.mono hW hbb.size)) _ _ _ _ ?_
            have hHeld : Below v1.heap.size v1 v1 := Below.refl _ _
            clear hbb
            refine wpAnyH_take (i := 9) (v := ?_) (by simp only [List.getElem?_toArray, List.getElem?_cons_succ, List.getElem?_cons_zero]; rfl) (by kernel_rfl) (by kernel_rfl) (by kernel_rfl) (fun _ _ _ h => h) (Or.inl ⟨by rfl, ?_⟩) (by assumption) ?_
            rotate_left
            · intro W hSW
              have tx := text_run W ta 4 4 X (HTA.out.below hSW)
              go_simp
              try with_reducible rfl
            try simp only [Act.put, List.setIfInBounds_toArray, List.set_cons_zero, List.set_cons_succ]
            refine wpAnyH_take (i := 10) (v := ?_) (by simp only [List.getElem?_toArray, List.getElem?_cons_succ, List.getElem?_cons_zero]; rfl) (by kernel_rfl) (by kernel_rfl) (by kernel_rfl) (fun _ _ _ h => h) (Or.inl ⟨by rfl, ?_⟩) (by assumption) ?_
            rotate_left
            · intro W hSW
              go_simp
              try with_reducible rfl
            try simp only [Act.put, List.setIfInBounds_toArray, List.set_cons_zero, List.set_cons_succ]
            refine wpAnyH_done (by kernel_rfl) ?_ _
            refine NoPanic.normal ?_
            have HB5 : Hid (Below w.heap.size w v1) := HB3.out.trans (HWv1.out.mono HB3.out.size)
            have HY4 := Lib.hid (HY.out.below HWv1.out)
            go_wp2_with fail
            go_ret3
            have hml := HML.out
            subst hml
            exact openQ_ok HQ4.out HY4.out HMM.out HB5.out (by rw [HL.out]; exact ho4n) _ HO6.out
          · have hne : ¬ (strOfNums X).toList = (strOfNums T).toList := fun h => hXT (nums_inj hXm hTm (toList_inj' _ _ h))
            have hne2 : (!(strOfNums X).toList == (strOfNums T).toList) = true := by simpa using hne
            have HQ4 : Hid (openN bs most = .error 5) := by show _ = _; rw [HQ3.out, if_pos hXT]
            clear HQ3 hTm hXm hXT
            obtain ⟨hwo, hwo2⟩ := HWO.out
            obtain ⟨hwp, hwp2, hwp3, hwp4⟩ := HWP.out
            go_wp2_with fail
            refine wp_region_noPanic ?_
            refine wp_region_held_drew (S := fun W => Below w3.heap.size w3 W) (by kernel_rfl) ?_ (fun hHeld => ?_)
            · exact (Below.refl _ _).drew
            refine wpAnyH_take (i := 0) (v := ?_) (by simp only [List.getElem?_toArray, List.getElem?_cons_zero]; rfl) (by kernel_rfl) (by kernel_rfl) (by kernel_rfl) (fun _ _ _ h => h) (Or.inl ⟨by rfl, ?_⟩) (by assumption) ?_
            rotate_left
            · intro W hSW
              go_simp
              try with_reducible rfl
            try simp only [Act.put, List.setIfInBounds_toArray, List.set_cons_zero, List.set_cons_succ]
            refine wpAnyH_take (i := 1) (v := ?_) (by simp only [List.getElem?_toArray, List.getElem?_cons_succ, List.getElem?_cons_zero]; rfl) (by kernel_rfl) (by kernel_rfl) (by kernel_rfl) (fun _ _ _ h => h) (Or.inl ⟨by rfl, ?_⟩) (by assumption) ?_
            rotate_left
            · intro W hSW
              go_simp
              try with_reducible rfl
            try simp only [Act.put, List.setIfInBounds_toArray, List.set_cons_zero, List.set_cons_succ]
            refine wpAnyH_take (i := 2) (v := ?_) (by simp only [List.getElem?_toArray, List.getElem?_cons_succ, List.getElem?_cons_zero]; rfl) (by kernel_rfl) (by kernel_rfl) (by kernel_rfl) (fun _ _ _ h => h) (Or.inl ⟨by rfl, ?_⟩) (by assumption) ?_
            rotate_left
            · intro W hSW
              go_simp
              try with_reducible rfl
            try simp only [Act.put, List.setIfInBounds_toArray, List.set_cons_zero, List.set_cons_succ]
            refine wpAnyH_take (i := 3) (v := ?_) (by simp only [List.getElem?_toArray, List.getElem?_cons_succ, List.getElem?_cons_zero]; rfl) (by kernel_rfl) (by kernel_rfl) (by kernel_rfl) (fun _ _ _ h => h) (Or.inl ⟨by rfl, ?_⟩) (by assumption) ?_
            rotate_left
            · intro W hSW
              go_simp
              try with_reducible rfl
            try simp only [Act.put, List.setIfInBounds_toArray, List.set_cons_zero, List.set_cons_succ]
            refine wpAnyH_take (i := 4) (v := ?_) (by simp only [List.getElem?_toArray, List.getElem?_cons_succ, List.getElem?_cons_zero]; rfl) (by kernel_rfl) (by kernel_rfl) (by kernel_rfl) (fun _ _ _ h => h) (Or.inl ⟨by rfl, ?_⟩) (by assumption) ?_
            rotate_left
            · intro W hSW
              go_simp
              try with_reducible rfl
            try simp only [Act.put, List.setIfInBounds_toArray, List.set_cons_zero, List.set_cons_succ]
            refine wpAnyH_take (i := 5) (v := ?_) (by simp only [List.getElem?_toArray, List.getElem?_cons_succ, List.getElem?_cons_zero]; rfl) (by kernel_rfl) (by kernel_rfl) (by kernel_rfl) (fun _ _ _ h => h) (Or.inl ⟨by rfl, ?_⟩) (by assumption) ?_
            rotate_left
            · intro W hSW
              go_simp
              try with_reducible rfl
            try simp only [Act.put, List.setIfInBounds_toArray, List.set_cons_zero, List.set_cons_succ]
            refine wpAnyH_take (i := 6) (v := ?_) (by simp only [List.getElem?_toArray, List.getElem?_cons_succ, List.getElem?_cons_zero]; rfl) (by kernel_rfl) (by kernel_rfl) (by kernel_rfl) (fun _ _ _ h => h) (Or.inl ⟨by rfl, ?_⟩) (by assumption) ?_
            rotate_left
            · intro W hSW
              have tx := text_run W (subA (some ⟨b, off, none⟩) c o) 4 (c - o) X (HX4.out.below hSW)
              go_simp
              try with_reducible rfl
            try simp only [Act.put, List.setIfInBounds_toArray, List.set_cons_zero, List.set_cons_succ]
            refine wpAnyH_take (i := 7) (v := ?_) (by simp only [List.getElem?_toArray, List.getElem?_cons_succ, List.getElem?_cons_zero]; rfl) (by kernel_rfl) (by kernel_rfl) (by kernel_rfl) (fun _ _ _ h => h) (Or.inl ⟨by rfl, ?_⟩) (by assumption) ?_
            rotate_left
            · intro W hSW
              go_simp
              try with_reducible rfl
            try simp only [Act.put, List.setIfInBounds_toArray, List.set_cons_zero, List.set_cons_succ]
            refine wpAnyH_ready (rs := [8]) (by kernel_rfl) (by simp) ?_
            refine AllReadyH.cons (by simp only [List.getElem?_toArray, List.getElem?_cons_succ, List.getElem?_cons_zero]; rfl) (fun K hK => ?_) AllReadyH.nil
            go_simp
            refine (tail_any _ ya ml yc m (HYB.out.below (Below.refl _ _).drew)).mono ?_
            rintro e v1 ⟨⟨ta, rfl, ht⟩, hb⟩
            have hbb : Below w3.heap.size w3 v1 := (Below.refl _ _).drew.trans hb
            have HWv1 : Hid (Below w3.heap.size w3 v1) := hbb
            have HTA : Hid (Bytes v1 ta 4 T) := by show Bytes _ _ _ _; rw [← HT.out]; exact ht
            clear ht
            clear hb
            go_wp2_with fail
            refine hK.out _ _ hbb (fun hHeld2 => ?_)
            clear hK K hHeld hHeld2
            try simp only [Act.put, List.setIfInBounds_toArray, List.set_cons_zero, List.set_cons_succ]
            refine wpAnyH_weaken (S2 := fun W => Below v1.heap.size v1 W) (fun W hW => hbb.trans (Below.mono hW hbb.size)) _ _ _ _ ?_
            have hHeld : Below v1.heap.size v1 v1 := Below.refl _ _
            clear hbb
            refine wpAnyH_take (i := 9) (v := ?_) (by simp only [List.getElem?_toArray, List.getElem?_cons_succ, List.getElem?_cons_zero]; rfl) (by kernel_rfl) (by kernel_rfl) (by kernel_rfl) (fun _ _ _ h => h) (Or.inl ⟨by rfl, ?_⟩) (by assumption) ?_
            rotate_left
            · intro W hSW
              have tx := text_run W ta 4 4 T (HTA.out.below hSW)
              go_simp
              try with_reducible rfl
            try simp only [Act.put, List.setIfInBounds_toArray, List.set_cons_zero, List.set_cons_succ]
            refine wpAnyH_take (i := 10) (v := ?_) (by simp only [List.getElem?_toArray, List.getElem?_cons_succ, List.getElem?_cons_zero]; rfl) (by kernel_rfl) (by kernel_rfl) (by kernel_rfl) (fun _ _ _ h => h) (Or.inl ⟨by rfl, ?_⟩) (by assumption) ?_
            rotate_left
            · intro W hSW
              go_simp
              try with_reducible rfl
            try simp only [Act.put, List.setIfInBounds_toArray, List.set_cons_zero, List.set_cons_succ]
            refine wpAnyH_done (by kernel_rfl) ?_ _
            refine NoPanic.normal ?_
            have HB5 : Hid (Below w.heap.size w v1) := HB3.out.trans (HWv1.out.mono HB3.out.size)
            have HY4 := Lib.hid (HY.out.below HWv1.out)
            go_wp2_with fail
            go_ret3
            exact openQ_err HQ4.out (by omega) HB5.out _ rfl
      · have hki : ¬ ((k : Int) = 0) := by omega
        have hkb : ((k : Int) == 0) = false := by simp; omega
        have hkc : ((k : Int) != 0) = true := by simp; omega
        have hQ := HQ.out
        rw [hr] at hQ
        have HQ2 : Hid (openN bs most = .error k) := hQ
        have HB3 : Hid (Below w.heap.size w w3) := HDB.out.trans (hb.mono HDB.out.size)
        have HK : Hid (k ≠ 0) := hk
        clear hr hb hQ HQ hk
        go_wp2_with fail
        go_ret3
        exact openQ_err HQ2.out HK.out HB3.out _ rfl
end Go.Proofs.YtglgchjkonjpiaaGreatDoor
