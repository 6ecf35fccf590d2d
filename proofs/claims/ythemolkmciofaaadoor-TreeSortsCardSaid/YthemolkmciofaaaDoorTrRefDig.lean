/- The document's digits of a mode, names, the order: the walks. -/
import Derived.Test.YthemolkmciofaaaDoorTrLawBack
namespace Go.Proofs.YthemolkmciofaaaDoor
open Go.RowKit Plain Go.Great
set_option linter.unusedVariables false
set_option linter.unusedSimpArgs false
def wordsA : Array Value := #[.string ⟨#[52, 48, 48, 48, 48]⟩, .string ⟨#[49, 48, 48, 54, 52, 52]⟩, .string ⟨#[49, 48, 48, 55, 53, 53]⟩, .string ⟨#[49, 50, 48, 48, 48, 48]⟩, .string ⟨#[49, 54, 48, 48, 48, 48]⟩]
theorem slice_ms (W : World) : (Instr.buildSlice 53 5 #[(0, .int .i64 16384), (1, .int .i64 33188), (2, .int .i64 33261), (3, .int .i64 40960), (4, .int .i64 57344)]).run Tryd.prog W = .ok (.slice (some ⟨W.heap.size, 0, none⟩) 5 5) (W.alloc (.cells modesA 3)) := by
  have h : (Tryd.prog.info? 3).map (fun i => (i.zero, i.size)) = some (some (.int .i64 0), 1) := by kernel_rfl
  obtain ⟨i, hi, he⟩ := Option.map_eq_some_iff.1 h
  simp only [Prod.mk.injEq] at he
  refine run_buildSlice W _ _ _ _ _ i _ Tryd.underlying53 hi he.1 (by rw [he.2]; decide) (by rw [he.2]; decide) ?_
  rw [he.2]
  kernel_rfl
theorem slice_ws (W : World) : (Instr.buildSlice 61 5 #[(0, .string ⟨#[52, 48, 48, 48, 48]⟩), (1, .string ⟨#[49, 48, 48, 54, 52, 52]⟩), (2, .string ⟨#[49, 48, 48, 55, 53, 53]⟩), (3, .string ⟨#[49, 50, 48, 48, 48, 48]⟩), (4, .string ⟨#[49, 54, 48, 48, 48, 48]⟩)]).run Tryd.prog W = .ok (.slice (some ⟨W.heap.size, 0, none⟩) 5 5) (W.alloc (.cells wordsA 9)) := by
  have h : (Tryd.prog.info? 9).map (fun i => (i.zero, i.size)) = some (some (.string ⟨#[]⟩), 1) := by kernel_rfl
  obtain ⟨i, hi, he⟩ := Option.map_eq_some_iff.1 h
  simp only [Prod.mk.injEq] at he
  refine run_buildSlice W _ _ _ _ _ i _ Tryd.underlying61 hi he.1 (by rw [he.2]; decide) (by rw [he.2]; decide) ?_
  rw [he.2]
  kernel_rfl
theorem modesA_at {w : World} {b : Nat} {t : TypeId} (h : w.heap[b]? = some (.cells modesA t (0, 0))) (m : Nat) (hm : m < 5) : w.cell? ⟨b, m, none⟩ = some (.int .i64 (modeAt m)) := by
  rw [cell_of_row _ _ _ _ _ _ h]
  have : m = 0 ∨ m = 1 ∨ m = 2 ∨ m = 3 ∨ m = 4 := by omega
  rcases this with rfl | rfl | rfl | rfl | rfl <;> rfl
theorem wordsA_at {w : World} {b : Nat} {t : TypeId} (h : w.heap[b]? = some (.cells wordsA t (0, 0))) (m : Nat) (hm : m < 5) : w.cell? ⟨b, m, none⟩ = some (.string (txt (digitsL (modeAt m)))) := by
  rw [cell_of_row _ _ _ _ _ _ h]
  have : m = 0 ∨ m = 1 ∨ m = 2 ∨ m = 3 ∨ m = 4 := by omega
  rcases this with rfl | rfl | rfl | rfl | rfl <;> rfl
theorem digits_no {k : Int} (h : ∀ j, j < 5 → ¬ k = modeAt j) : txt (digitsL k) = ⟨#[]⟩ := by
  have k0 : ¬ k = 16384 := h 0 (by omega)
  have k1 : ¬ k = 33188 := h 1 (by omega)
  have k2 : ¬ k = 33261 := h 2 (by omega)
  have k3 : ¬ k = 40960 := h 3 (by omega)
  have k4 : ¬ k = 57344 := h 4 (by omega)
  unfold digitsL
  rw [if_neg k0, if_neg k1, if_neg k2, if_neg k3, if_neg k4]
  rfl
theorem heap_two (w : World) (A B : Obj) : ((w.alloc A).alloc B).heap[w.heap.size]? = some A ∧ ((w.alloc A).alloc B).heap[w.heap.size + 1]? = some B := by
  have hsz : (w.alloc A).heap.size = w.heap.size + 1 := by simp
  refine ⟨(Below.heap_alloc _ _ _ (by rw [hsz]; omega)).trans (heap_alloc_new _ _), ?_⟩
  have := heap_alloc_new (w.alloc A) B
  rw [hsz] at this
  exact this
set_option maxRecDepth 100000 in
set_option maxHeartbeats 4000000 in
theorem refdigits_any (k : Int) (w : World) : Calls Tryd.prog 23 #[.int .i64 k] w fun e w' => e = .returned (.string (txt (digitsL k))) ∧ Below w.heap.size w w' := by
  obtain ⟨w2, hw2⟩ : ∃ W, (w.alloc (.cells #[.int .i64 16384, .int .i64 33188, .int .i64 33261, .int .i64 40960, .int .i64 57344] 3)).alloc (.cells #[.string ⟨#[52, 48, 48, 48, 48]⟩, .string ⟨#[49, 48, 48, 54, 52, 52]⟩, .string ⟨#[49, 48, 48, 55, 53, 53]⟩, .string ⟨#[49, 50, 48, 48, 48, 48]⟩, .string ⟨#[49, 54, 48, 48, 48, 48]⟩] 9) = W := ⟨_, rfl⟩
  have HW2 := Lib.hid hw2
  have h2 := heap_two w (.cells modesA 3 (0, 0)) (.cells wordsA 9 (0, 0))
  rw [show (w.alloc (.cells modesA 3 (0, 0))).alloc (.cells wordsA 9 (0, 0)) = w2 from hw2] at h2
  have HB : Hid (Below w.heap.size w w2) := by rw [← hw2]; exact ((Below.refl _ _).alloc (Nat.le_refl _) _).alloc (by simp) _
  have HC1 := Lib.hid (modesA_at h2.1)
  have HC2 := Lib.hid (wordsA_at h2.2)
  clear hw2 h2
  go_enter Tryd.func23, Tryd.ntmps23
  go_wp2_with (first
    | refine wpList_slice rfl 53 5 _ rfl _ (by rfl) _ _ (slice_ms _) ?_
    | refine wpList_slice rfl 61 5 _ rfl _ (by rfl) _ _ (slice_ws _) ?_)
  rw [HW2.out]
  clear HW2
  go_loop [5] (fun i => ∃ m : Nat, m ≤ 5 ∧ i = .int .i64 (m : Int) ∧ ∀ j, j < m → ¬ k = modeAt j) (fun i => 5 - (intOf i).toNat)
  case atStart => exact ⟨0, by omega, rfl, fun j h => by omega⟩
  case round =>
    obtain ⟨m, hm, rfl, hno⟩ := hrel
    have HNO := Lib.hid hno
    have WM := Lib.hid (next_int m (by omega))
    clear hno
    by_cases h5 : m = 5
    · subst h5
      have HD := Lib.hid (digits_no HNO.out)
      go_wp2_with fail
      go_ret
      exact ⟨by rw [HD.out]; rfl, HB.out⟩
    · have hm5 : m < 5 := by omega
      have hmi : (m : Int) < 5 := by omega
      have hc1 := HC1.out m hm5
      have hc2 := HC2.out m hm5
      have HM5 := Lib.hid hm5
      have HNO2 : Hid (¬ k = modeAt m → ∀ j, j < m + 1 → ¬ k = modeAt j) := fun h j hj => by
        by_cases hjm : j = m
        · rw [hjm]; exact h
        · exact HNO.out j (by omega)
      clear h5 hm
      by_cases hk : k = modeAt m
      · have HK := Lib.hid (show txt (digitsL (modeAt m)) = txt (digitsL k) by rw [hk])
        have hkb : (modeAt m == k) = true := by rw [hk]; exact beq_self_eq_true _
        have hk2 : modeAt m = k := hk.symm
        rw [hk2] at hc1
        clear hk hkb hk2
        generalize txt (digitsL (modeAt m)) = D at *
        go_wp2_with fail
        (try simp only [Exit.inBlock, Exit.then])
        go_ret
        exact ⟨by rw [HK.out]; rfl, HB.out⟩
      · have HS := Lib.hid (HNO2.out hk)
        have hkb : (modeAt m == k) = false := beq_eq_false_iff_ne.2 fun e => hk e.symm
        have hk2 : ¬ modeAt m = k := fun e => hk e.symm
        clear hk hc2 HNO2
        generalize modeAt m = z at *
        go_wp2_with fail
        exact ⟨⟨m + 1, HM5.out, by first | rw [WM.out _ rfl] | rfl, HS.out⟩, by have := HM5.out; (first | rw [WM.out _ rfl] | skip); simp [intOf]; omega⟩
theorem nameOk_all {s : ByteArray} (h1 : (s.data.toList == ([] : List UInt8)) = false) (h2 : s.size ≤ 255) (h3 : (s.data.toList == [46]) = false) (h4 : (s.data.toList == [46, 46]) = false) : nameOk s.data.toList = !(s.data.toList.any slash0) := by
  unfold nameOk
  have : s.data.toList.isEmpty = false := by rw [← h1]; cases s.data.toList <;> rfl
  rw [this, h3, h4, decide_eq_true (by rw [← Lib.size_eq]; exact h2)]
  rfl
theorem nameOk_no {s : ByteArray} (h : (s.data.toList == ([] : List UInt8)) = true ∨ 255 < s.size ∨ (s.data.toList == [46]) = true ∨ (s.data.toList == [46, 46]) = true) : nameOk s.data.toList = false := by
  unfold nameOk
  rcases h with h | h | h | h
  · have : s.data.toList.isEmpty = true := by rw [← h]; cases s.data.toList <;> rfl
    rw [this]; rfl
  · rw [decide_eq_false (by rw [← Lib.size_eq]; omega)]
    simp
  · rw [h]; simp
  · rw [h]; simp
theorem any_at {l : List UInt8} {m : Nat} {c : UInt8} (h : l[m]? = some c) (hc : slash0 c = true) : l.any slash0 = true := List.any_eq_true.2 ⟨c, List.mem_of_getElem? h, hc⟩
theorem any_not {l : List UInt8} (h : ∀ j, j < l.length → slash0 (l[j]?.getD 0) = false) : l.any slash0 = false := by
  rw [List.any_eq_false]
  intro c hc
  obtain ⟨j, hj⟩ := List.mem_iff_getElem?.1 hc
  have := h j (List.getElem?_eq_some_iff.1 hj).1
  rw [hj] at this
  simpa using this
theorem slash_at8 (s : ByteArray) (m : Nat) : slash0 (s.data.toList[m]?.getD 0) = (at8 s m == 47 || at8 s m == 0) := by
  unfold slash0 at8
  generalize s.data.toList[m]?.getD 0 = c
  have h1 : (c == 47) = (c.toNat == 47) := by
    rw [Bool.eq_iff_iff, beq_iff_eq, beq_iff_eq, ← UInt8.toNat_inj]; rfl
  have h2 : (c == 0) = (c.toNat == 0) := by
    rw [Bool.eq_iff_iff, beq_iff_eq, beq_iff_eq, ← UInt8.toNat_inj]; rfl
  rw [h1, h2]
set_option maxRecDepth 100000 in
set_option maxHeartbeats 4000000 in
theorem refnamed_any (s : ByteArray) (w : World) (hs : s.size ≤ 100000) : Calls Tryd.prog 24 #[.string s] w fun e w' => e = .returned (.bool (nameOk s.data.toList)) ∧ w' = w := by
  have HSZ := Lib.hid (Lib.size_eq s)
  have HSB := Lib.hid hs
  obtain ⟨e2, he2⟩ : ∃ e, (s.data.toList == ([46] : List UInt8)) = e := ⟨_, rfl⟩
  obtain ⟨e3, he3⟩ : ∃ e, (s.data.toList == ([46, 46] : List UInt8)) = e := ⟨_, rfl⟩
  have HE2 := Lib.hid he2
  have HE3 := Lib.hid he3
  have H2 : Hid (∀ W, (binOp .eql 9 (.string s) (.string ⟨#[46]⟩)).run Tryd.prog W = .ok (.bool e2) W) := fun W => by rw [str_eql, ← HE2.out]
  have H3 : Hid (∀ W, (binOp .eql 9 (.string s) (.string ⟨#[46, 46]⟩)).run Tryd.prog W = .ok (.bool e3) W) := fun W => by rw [str_eql, ← HE3.out]
  clear he2 he3 hs
  by_cases hn0 : s.size = 0
  · have hni : (s.size : Int) = 0 := by omega
    have H0L : Hid (s.data.toList = []) := List.eq_nil_of_length_eq_zero (by rw [← HSZ.out]; exact hn0)
    have HF := Lib.hid (nameOk_no (s := s) (.inl (by rw [H0L.out]; rfl)))
    clear hn0
    go_enter Tryd.func24, Tryd.ntmps24
    go_wp2_with fail
    go_ret
    exact ⟨by rw [HF.out]; rfl, rfl⟩
  have hni : ¬ (s.size : Int) = 0 := by omega
  have hnb : ((s.size : Int) == 0) = false := beq_eq_false_iff_ne.2 hni
  have hne : ¬ s = ByteArray.empty := fun e => by rw [e] at hni; exact hni rfl
  by_cases h255 : 255 < s.size
  · have hgt : (255 : Int) < (s.size : Int) := by omega
    have HF := Lib.hid (nameOk_no (s := s) (.inr (.inl h255)))
    clear hn0 h255
    go_enter Tryd.func24, Tryd.ntmps24
    go_wp2_with fail
    go_ret
    exact ⟨by rw [HF.out]; rfl, rfl⟩
  have hgt : ¬ (255 : Int) < (s.size : Int) := by omega
  have HN0 := Lib.hid hn0
  have H255 := Lib.hid h255
  clear hn0 h255
  cases e2
  · cases e3
    · have HA := Lib.hid (nameOk_all (s := s) (by rw [beq_eq_false_iff_ne]; intro h; have := congrArg List.length h; rw [← HSZ.out] at this; exact HN0.out this) (by have := H255.out; omega) HE2.out HE3.out)
      go_enter Tryd.func24, Tryd.ntmps24
      go_wp2_with (first
        | refine wpList_eql (by rfl) .eql 9 _ _ _ rfl (.string s) (.string ⟨#[46]⟩) rfl rfl (.bool false) (guard_eq _ _ _ _) H2.out ?_
        | refine wpList_eql (by rfl) .eql 9 _ _ _ rfl (.string s) (.string ⟨#[46, 46]⟩) rfl rfl (.bool false) (guard_eq _ _ _ _) H3.out ?_)
      clear H2 H3 HE2 HE3 hni hgt hnb hne
      go_loop [3] (fun i => ∃ m : Nat, m ≤ s.size ∧ i = .int .i64 (m : Int) ∧ ∀ j, j < m → slash0 (s.data.toList[j]?.getD 0) = false) (fun i => s.size - (intOf i).toNat)
      case atStart => exact ⟨0, Nat.zero_le _, rfl, fun j h => by omega⟩
      case round =>
        obtain ⟨m, hm, rfl, hno⟩ := hrel
        have HNO := Lib.hid hno
        have WM := Lib.hid (next_int m (by have := HSB.out; omega))
        clear hno
        by_cases hms : m < s.size
        · have hmi : (m : Int) < (s.size : Int) := by omega
          have hix := fun W => index_text s m hms (m : Int) rfl W
          have HMS := Lib.hid hms
          have HSL := Lib.hid (slash_at8 s m)
          have HBAD : Hid (slash0 (s.data.toList[m]?.getD 0) = true → nameOk s.data.toList = false) := fun h => by
            rw [HA.out, any_at (List.getElem?_eq_getElem (by rw [← HSZ.out]; exact HMS.out)) (by rw [List.getElem?_eq_getElem (by rw [← HSZ.out]; exact HMS.out)] at h; exact h)]; rfl
          have HGO : Hid (slash0 (s.data.toList[m]?.getD 0) = false → ∀ j, j < m + 1 → slash0 (s.data.toList[j]?.getD 0) = false) := fun h j hj => by
            by_cases hjm : j = m
            · rw [hjm]; exact h
            · exact HNO.out j (by omega)
          rw [HSL.out] at HBAD HGO
          clear HSL hms hm
          generalize at8 s m = c at *
          by_cases hc0 : c = 0
          · subst hc0
            have HF := Lib.hid (HBAD.out rfl)
            rw [show ((0 : Nat) : Int) = 0 from rfl] at hix
            clear HBAD HGO
            go_wp2_with fail
            (try simp only [Exit.inBlock, Exit.then])
            go_ret
            exact ⟨by rw [HF.out]; rfl, rfl⟩
          · have hci : ¬ (c : Int) = 0 := by omega
            by_cases hc47 : c = 47
            · subst hc47
              have HF := Lib.hid (HBAD.out rfl)
              rw [show ((47 : Nat) : Int) = 47 from rfl] at hix
              clear HBAD HGO hci hc0
              go_wp2_with fail
              (try simp only [Exit.inBlock, Exit.then])
              go_ret
              exact ⟨by rw [HF.out]; rfl, rfl⟩
            · have hci2 : ¬ (c : Int) = 47 := by omega
              have hcb : ((c : Int) == 0) = false := beq_eq_false_iff_ne.2 hci
              have hcb2 : ((c : Int) == 47) = false := beq_eq_false_iff_ne.2 hci2
              have HG := Lib.hid (HGO.out (by rw [beq_eq_false_iff_ne.2 hc47, beq_eq_false_iff_ne.2 hc0]; rfl))
              clear HBAD HGO hc0 hc47
              generalize (c : Int) = ci at *
              go_wp2_with fail
              exact ⟨⟨m + 1, HMS.out, by first | rw [WM.out _ rfl] | rfl, HG.out⟩, by have := HMS.out; (first | rw [WM.out _ rfl] | skip); simp [intOf]; omega⟩
        · have hmi : ¬ (m : Int) < (s.size : Int) := by omega
          have HT : Hid (nameOk s.data.toList = true) := by
            show _ = _
            rw [HA.out, any_not fun j hj => HNO.out j (by rw [← HSZ.out] at hj; omega)]; rfl
          clear hms hm
          go_wp2_with fail
          go_ret
          exact ⟨by rw [HT.out]; rfl, rfl⟩
    · have HF := Lib.hid (nameOk_no (s := s) (.inr (.inr (.inr HE3.out))))
      go_enter Tryd.func24, Tryd.ntmps24
      go_wp2_with (first
        | refine wpList_eql (by rfl) .eql 9 _ _ _ rfl (.string s) (.string ⟨#[46]⟩) rfl rfl (.bool false) (guard_eq _ _ _ _) H2.out ?_
        | refine wpList_eql (by rfl) .eql 9 _ _ _ rfl (.string s) (.string ⟨#[46, 46]⟩) rfl rfl (.bool true) (guard_eq _ _ _ _) H3.out ?_)
      go_ret
      exact ⟨by rw [HF.out]; rfl, rfl⟩
  · have HF := Lib.hid (nameOk_no (s := s) (.inr (.inr (.inl HE2.out))))
    go_enter Tryd.func24, Tryd.ntmps24
    go_wp2_with (first
      | refine wpList_eql (by rfl) .eql 9 _ _ _ rfl (.string s) (.string ⟨#[46]⟩) rfl rfl (.bool true) (guard_eq _ _ _ _) H2.out ?_)
    go_ret
    exact ⟨by rw [HF.out]; rfl, rfl⟩
end Go.Proofs.YthemolkmciofaaaDoor
