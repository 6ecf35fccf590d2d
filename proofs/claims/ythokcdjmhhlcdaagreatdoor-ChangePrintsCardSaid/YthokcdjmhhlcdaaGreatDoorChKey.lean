/- change.rightKey: the walk. -/
import Derived.Test.YthokcdjmhhlcdaaGreatDoorChRows
import Derived.Test.YthokcdjmhhlcdaaGreatDoorRight
namespace Go.Proofs.YthokcdjmhhlcdaaGreatDoor
open Go.RowKit Plain
set_option linter.unusedVariables false
set_option linter.unusedSimpArgs false
theorem keyB_all {s : ByteArray} (h0 : ¬ s.size = 0) (h1 : ¬ 100 < s.size) : keyB s.data.toList = s.data.toList.all keyByte := by
  unfold keyB
  have e1 : s.data.toList.isEmpty = false := by
    cases h : s.data.toList with
    | nil => exact absurd (by rw [Lib.size_eq, h]; rfl) h0
    | cons a l => rfl
  rw [e1, decide_eq_true (by rw [← Lib.size_eq]; omega)]
  rfl
theorem keyB_none {s : ByteArray} (h0 : s.size = 0) : keyB s.data.toList = false := by
  have : s.data.toList = [] := List.eq_nil_of_length_eq_zero (by rw [← Lib.size_eq]; exact h0)
  rw [this]; rfl
theorem keyB_far {s : ByteArray} (h1 : 100 < s.size) : keyB s.data.toList = false := by
  unfold keyB
  rw [decide_eq_false (by rw [← Lib.size_eq]; omega)]
  simp
theorem all_not {l : List UInt8} {m : Nat} (h : m < l.length) (hc : keyByte (l[m]?.getD 0) = false) : l.all keyByte = false := by
  rw [List.getElem?_eq_getElem h] at hc
  rw [List.all_eq_false]
  exact ⟨_, List.getElem_mem h, by rw [show keyByte l[m] = false from hc]; decide⟩
theorem all_yes {l : List UInt8} (h : ∀ j, j < l.length → keyByte (l[j]?.getD 0) = true) : l.all keyByte = true := by
  rw [List.all_eq_true]
  intro c hc
  obtain ⟨j, hj⟩ := List.mem_iff_getElem?.1 hc
  have := h j (List.getElem?_eq_some_iff.1 hj).1
  rw [hj] at this
  exact this
def keyE (c : Nat) : Bool := (decide (97 ≤ c) && decide (c ≤ 122)) || (decide (65 ≤ c) && decide (c ≤ 90)) || (decide (48 ≤ c) && decide (c ≤ 57)) || c == 45 || c == 95
theorem keyE_iff {c : Nat} : keyE c = true ↔ ((((97 ≤ c ∧ c ≤ 122) ∨ (65 ≤ c ∧ c ≤ 90)) ∨ (48 ≤ c ∧ c ≤ 57)) ∨ c = 45) ∨ c = 95 := by
  unfold keyE
  simp only [Bool.or_eq_true, Bool.and_eq_true, decide_eq_true_eq, beq_iff_eq]
set_option maxRecDepth 100000 in
set_option maxHeartbeats 16000000 in
theorem rightKey_any (s : ByteArray) (w : World) (hs : s.size ≤ 100000) :
    Calls Tryz.prog 33 #[.string s] w fun e w' => e = .returned (.bool (keyB s.data.toList)) ∧ Below w.heap.size w w' := by
  have HSZ := Lib.hid (Lib.size_eq s)
  by_cases hn0 : s.size = 0
  · have HF := Lib.hid (keyB_none hn0)
    have hs0 : s = ⟨#[]⟩ := bytes_ext (List.eq_nil_of_length_eq_zero (by rw [← Lib.size_eq]; exact hn0))
    have H1 : Hid (∀ W, (binOp .eql 9 (.string s) (.string ⟨#[]⟩)).run Tryz.prog W = .ok (.bool true) W) := fun W => by rw [str_eql, hs0]; rfl
    clear hn0 hs0
    go_enter Tryz.func33, Tryz.ntmps33
    go_wp2_with (first
      | refine wpList_eql (by rfl) .eql 9 _ _ _ rfl (.string s) (.string ⟨#[]⟩) rfl rfl (.bool true) (guard_eq _ _ _ _) H1.out ?_)
    go_ret
    exact ⟨by rw [HF.out]; rfl, Below.refl _ _⟩
  have H1 : Hid (∀ W, (binOp .eql 9 (.string s) (.string ⟨#[]⟩)).run Tryz.prog W = .ok (.bool false) W) := fun W => by
    rw [str_eql, show (⟨#[]⟩ : ByteArray).data.toList = ([] : List UInt8) from rfl, beq_eq_false_iff_ne.2 (fun e => hn0 (by rw [Lib.size_eq, e]; rfl))]
  by_cases h100 : 100 < s.size
  · have HF := Lib.hid (keyB_far h100)
    have hgt : (100 : Int) < (s.size : Int) := by omega
    clear hn0 h100
    go_enter Tryz.func33, Tryz.ntmps33
    go_wp2_with (first
      | refine wpList_eql (by rfl) .eql 9 _ _ _ rfl (.string s) (.string ⟨#[]⟩) rfl rfl (.bool false) (guard_eq _ _ _ _) H1.out ?_)
    go_ret
    exact ⟨by rw [HF.out]; rfl, Below.refl _ _⟩
  have HA := Lib.hid (keyB_all hn0 h100)
  have hgt : ¬ (100 : Int) < (s.size : Int) := by omega
  have HS1 : Hid (s.size ≤ 100) := by show _ ≤ _; omega
  have HB := Lib.hid (bytes_new w s (by omega))
  obtain ⟨cp, hcp, hcv⟩ := conv_bytes w s
  have HBW : Hid (Below w.heap.size w (Lib.bytesWorld w 5 s)) := Lib.bytesWorld_below _ _ _
  clear hn0 h100 hcp hs
  go_enter Tryz.func33, Tryz.ntmps33
  go_wp2_with (first
    | refine wpList_eql (by rfl) .eql 9 _ _ _ rfl (.string s) (.string ⟨#[]⟩) rfl rfl (.bool false) (guard_eq _ _ _ _) H1.out ?_)
  clear hcv hgt H1
  generalize Lib.bytesWorld w 5 s = w1 at *
  go_loop [17] (fun i => ∃ m : Nat, m ≤ s.size ∧ i = .int .i64 (m : Int) ∧ ∀ j, j < m → keyByte (s.data.toList[j]?.getD 0) = true) (fun i => s.size - (intOf i).toNat)
  case atStart => exact ⟨0, Nat.zero_le _, rfl, fun j h => by omega⟩
  case round =>
    obtain ⟨m, hm, rfl, hno⟩ := hrel
    have HNO := Lib.hid hno
    have WM := Lib.hid (next_int m (by have := HS1.out; omega))
    clear hno
    by_cases hms : m < s.size
    · have hmi : (m : Int) < (s.size : Int) := by omega
      have HMS := Lib.hid hms
      have hcell : w1.cell? ⟨w.heap.size, m, none⟩ = some (.int .u8 ((s.data.toList[m]?.getD 0).toNat : Int)) := by
        rcases HB.out.2.2.2 with h0 | ⟨b, off, hb, hc⟩
        · omega
        · simp only [Option.some.injEq, Addr.mk.injEq] at hb
          obtain ⟨rfl, rfl, -⟩ := hb
          have := hc m hms
          rw [Nat.zero_add] at this
          rw [this]
          unfold numsOf
          rw [List.getElem?_map, List.getElem?_eq_getElem (by rw [← Lib.size_eq]; exact hms)]
          rfl
      have HBAD : Hid (keyByte (s.data.toList[m]?.getD 0) = false → keyB s.data.toList = false) := fun h => by
        rw [HA.out]; exact all_not (by rw [← HSZ.out]; exact HMS.out) h
      have HGO : Hid (keyByte (s.data.toList[m]?.getD 0) = true → ∀ j, j < m + 1 → keyByte (s.data.toList[j]?.getD 0) = true) := fun h j hj => by
        by_cases hjm : j = m
        · rw [hjm]; exact h
        · exact HNO.out j (by omega)
      obtain ⟨q, hq⟩ : ∃ q, s.data.toList[m]?.getD 0 = q := ⟨_, rfl⟩
      rw [hq] at hcell HBAD HGO
      have HKB : Hid (keyByte q = keyE q.toNat) := rfl
      have HC255 : Hid (q.toNat ≤ 255) := by show _ ≤ _; have := q.toNat_lt; omega
      rw [HKB.out] at HBAD HGO
      clear HKB hq hms hm
      generalize q.toNat = c at *
      have HCI : c ≤ 255 := HC255.out
      have hcs : (0 ≤ c ∧ c ≤ 44) ∨ (45 ≤ c ∧ c ≤ 45) ∨ (46 ≤ c ∧ c ≤ 47) ∨ (48 ≤ c ∧ c ≤ 57) ∨ (58 ≤ c ∧ c ≤ 64) ∨ (65 ≤ c ∧ c ≤ 90) ∨ (91 ≤ c ∧ c ≤ 94) ∨ (95 ≤ c ∧ c ≤ 95) ∨ (96 ≤ c ∧ c ≤ 96) ∨ (97 ≤ c ∧ c ≤ 122) ∨ (123 ≤ c ∧ c ≤ 255) := by omega
      rcases hcs with hc | hc | hc | hc | hc | hc | hc | hc | hc | hc | hc
      · -- 0 .. 44
        have g97 : ¬ (97 : Int) ≤ (c : Int) := by omega
        have g65 : ¬ (65 : Int) ≤ (c : Int) := by omega
        have g48 : ¬ (48 : Int) ≤ (c : Int) := by omega
        have l122 : (c : Int) ≤ 122 := by omega
        have l90 : (c : Int) ≤ 90 := by omega
        have l57 : (c : Int) ≤ 57 := by omega
        have e45 : ¬ (c : Int) = 45 := by omega
        have n45 : ((c : Int) != 45) = true := bne_iff_ne.2 e45
        have e95 : ¬ (c : Int) = 95 := by omega
        have n95 : ((c : Int) != 95) = true := bne_iff_ne.2 e95
        have HF := Lib.hid (HBAD.out (Bool.eq_false_iff.2 fun h => by have := keyE_iff.1 h; omega))
        clear HBAD HGO hc HCI
        generalize (c : Int) = ci at *
        go_wp2_with fail
        (try simp only [Exit.inBlock, Exit.then])
        go_ret
        exact ⟨by rw [HF.out]; rfl, HBW.out⟩
      · -- 45 .. 45
        have g97 : ¬ (97 : Int) ≤ (c : Int) := by omega
        have g65 : ¬ (65 : Int) ≤ (c : Int) := by omega
        have g48 : ¬ (48 : Int) ≤ (c : Int) := by omega
        have l122 : (c : Int) ≤ 122 := by omega
        have l90 : (c : Int) ≤ 90 := by omega
        have l57 : (c : Int) ≤ 57 := by omega
        have e45 : (c : Int) = 45 := by omega
        have n45 : ((c : Int) != 45) = false := by rw [e45]; rfl
        clear e45
        have e95 : ¬ (c : Int) = 95 := by omega
        have n95 : ((c : Int) != 95) = true := bne_iff_ne.2 e95
        have HG := Lib.hid (HGO.out (keyE_iff.2 (by omega)))
        clear HBAD HGO hc HCI
        generalize (c : Int) = ci at *
        go_wp2_with fail
        exact ⟨⟨m + 1, HMS.out, by first | rw [WM.out _ rfl] | rfl, HG.out⟩, by have := HMS.out; (first | rw [WM.out _ rfl] | skip); simp [intOf]; omega⟩
      · -- 46 .. 47
        have g97 : ¬ (97 : Int) ≤ (c : Int) := by omega
        have g65 : ¬ (65 : Int) ≤ (c : Int) := by omega
        have g48 : ¬ (48 : Int) ≤ (c : Int) := by omega
        have l122 : (c : Int) ≤ 122 := by omega
        have l90 : (c : Int) ≤ 90 := by omega
        have l57 : (c : Int) ≤ 57 := by omega
        have e45 : ¬ (c : Int) = 45 := by omega
        have n45 : ((c : Int) != 45) = true := bne_iff_ne.2 e45
        have e95 : ¬ (c : Int) = 95 := by omega
        have n95 : ((c : Int) != 95) = true := bne_iff_ne.2 e95
        have HF := Lib.hid (HBAD.out (Bool.eq_false_iff.2 fun h => by have := keyE_iff.1 h; omega))
        clear HBAD HGO hc HCI
        generalize (c : Int) = ci at *
        go_wp2_with fail
        (try simp only [Exit.inBlock, Exit.then])
        go_ret
        exact ⟨by rw [HF.out]; rfl, HBW.out⟩
      · -- 48 .. 57
        have g97 : ¬ (97 : Int) ≤ (c : Int) := by omega
        have g65 : ¬ (65 : Int) ≤ (c : Int) := by omega
        have g48 : (48 : Int) ≤ (c : Int) := by omega
        have l122 : (c : Int) ≤ 122 := by omega
        have l90 : (c : Int) ≤ 90 := by omega
        have l57 : (c : Int) ≤ 57 := by omega
        have e45 : ¬ (c : Int) = 45 := by omega
        have n45 : ((c : Int) != 45) = true := bne_iff_ne.2 e45
        have e95 : ¬ (c : Int) = 95 := by omega
        have n95 : ((c : Int) != 95) = true := bne_iff_ne.2 e95
        have HG := Lib.hid (HGO.out (keyE_iff.2 (by omega)))
        clear HBAD HGO hc HCI
        generalize (c : Int) = ci at *
        go_wp2_with fail
        exact ⟨⟨m + 1, HMS.out, by first | rw [WM.out _ rfl] | rfl, HG.out⟩, by have := HMS.out; (first | rw [WM.out _ rfl] | skip); simp [intOf]; omega⟩
      · -- 58 .. 64
        have g97 : ¬ (97 : Int) ≤ (c : Int) := by omega
        have g65 : ¬ (65 : Int) ≤ (c : Int) := by omega
        have g48 : (48 : Int) ≤ (c : Int) := by omega
        have l122 : (c : Int) ≤ 122 := by omega
        have l90 : (c : Int) ≤ 90 := by omega
        have l57 : ¬ (c : Int) ≤ 57 := by omega
        have e45 : ¬ (c : Int) = 45 := by omega
        have n45 : ((c : Int) != 45) = true := bne_iff_ne.2 e45
        have e95 : ¬ (c : Int) = 95 := by omega
        have n95 : ((c : Int) != 95) = true := bne_iff_ne.2 e95
        have HF := Lib.hid (HBAD.out (Bool.eq_false_iff.2 fun h => by have := keyE_iff.1 h; omega))
        clear HBAD HGO hc HCI
        generalize (c : Int) = ci at *
        go_wp2_with fail
        (try simp only [Exit.inBlock, Exit.then])
        go_ret
        exact ⟨by rw [HF.out]; rfl, HBW.out⟩
      · -- 65 .. 90
        have g97 : ¬ (97 : Int) ≤ (c : Int) := by omega
        have g65 : (65 : Int) ≤ (c : Int) := by omega
        have g48 : (48 : Int) ≤ (c : Int) := by omega
        have l122 : (c : Int) ≤ 122 := by omega
        have l90 : (c : Int) ≤ 90 := by omega
        have l57 : ¬ (c : Int) ≤ 57 := by omega
        have e45 : ¬ (c : Int) = 45 := by omega
        have n45 : ((c : Int) != 45) = true := bne_iff_ne.2 e45
        have e95 : ¬ (c : Int) = 95 := by omega
        have n95 : ((c : Int) != 95) = true := bne_iff_ne.2 e95
        have HG := Lib.hid (HGO.out (keyE_iff.2 (by omega)))
        clear HBAD HGO hc HCI
        generalize (c : Int) = ci at *
        go_wp2_with fail
        exact ⟨⟨m + 1, HMS.out, by first | rw [WM.out _ rfl] | rfl, HG.out⟩, by have := HMS.out; (first | rw [WM.out _ rfl] | skip); simp [intOf]; omega⟩
      · -- 91 .. 94
        have g97 : ¬ (97 : Int) ≤ (c : Int) := by omega
        have g65 : (65 : Int) ≤ (c : Int) := by omega
        have g48 : (48 : Int) ≤ (c : Int) := by omega
        have l122 : (c : Int) ≤ 122 := by omega
        have l90 : ¬ (c : Int) ≤ 90 := by omega
        have l57 : ¬ (c : Int) ≤ 57 := by omega
        have e45 : ¬ (c : Int) = 45 := by omega
        have n45 : ((c : Int) != 45) = true := bne_iff_ne.2 e45
        have e95 : ¬ (c : Int) = 95 := by omega
        have n95 : ((c : Int) != 95) = true := bne_iff_ne.2 e95
        have HF := Lib.hid (HBAD.out (Bool.eq_false_iff.2 fun h => by have := keyE_iff.1 h; omega))
        clear HBAD HGO hc HCI
        generalize (c : Int) = ci at *
        go_wp2_with fail
        (try simp only [Exit.inBlock, Exit.then])
        go_ret
        exact ⟨by rw [HF.out]; rfl, HBW.out⟩
      · -- 95 .. 95
        have g97 : ¬ (97 : Int) ≤ (c : Int) := by omega
        have g65 : (65 : Int) ≤ (c : Int) := by omega
        have g48 : (48 : Int) ≤ (c : Int) := by omega
        have l122 : (c : Int) ≤ 122 := by omega
        have l90 : ¬ (c : Int) ≤ 90 := by omega
        have l57 : ¬ (c : Int) ≤ 57 := by omega
        have e45 : ¬ (c : Int) = 45 := by omega
        have n45 : ((c : Int) != 45) = true := bne_iff_ne.2 e45
        have e95 : (c : Int) = 95 := by omega
        have n95 : ((c : Int) != 95) = false := by rw [e95]; rfl
        clear e95
        have HG := Lib.hid (HGO.out (keyE_iff.2 (by omega)))
        clear HBAD HGO hc HCI
        generalize (c : Int) = ci at *
        go_wp2_with fail
        exact ⟨⟨m + 1, HMS.out, by first | rw [WM.out _ rfl] | rfl, HG.out⟩, by have := HMS.out; (first | rw [WM.out _ rfl] | skip); simp [intOf]; omega⟩
      · -- 96 .. 96
        have g97 : ¬ (97 : Int) ≤ (c : Int) := by omega
        have g65 : (65 : Int) ≤ (c : Int) := by omega
        have g48 : (48 : Int) ≤ (c : Int) := by omega
        have l122 : (c : Int) ≤ 122 := by omega
        have l90 : ¬ (c : Int) ≤ 90 := by omega
        have l57 : ¬ (c : Int) ≤ 57 := by omega
        have e45 : ¬ (c : Int) = 45 := by omega
        have n45 : ((c : Int) != 45) = true := bne_iff_ne.2 e45
        have e95 : ¬ (c : Int) = 95 := by omega
        have n95 : ((c : Int) != 95) = true := bne_iff_ne.2 e95
        have HF := Lib.hid (HBAD.out (Bool.eq_false_iff.2 fun h => by have := keyE_iff.1 h; omega))
        clear HBAD HGO hc HCI
        generalize (c : Int) = ci at *
        go_wp2_with fail
        (try simp only [Exit.inBlock, Exit.then])
        go_ret
        exact ⟨by rw [HF.out]; rfl, HBW.out⟩
      · -- 97 .. 122
        have g97 : (97 : Int) ≤ (c : Int) := by omega
        have g65 : (65 : Int) ≤ (c : Int) := by omega
        have g48 : (48 : Int) ≤ (c : Int) := by omega
        have l122 : (c : Int) ≤ 122 := by omega
        have l90 : ¬ (c : Int) ≤ 90 := by omega
        have l57 : ¬ (c : Int) ≤ 57 := by omega
        have e45 : ¬ (c : Int) = 45 := by omega
        have n45 : ((c : Int) != 45) = true := bne_iff_ne.2 e45
        have e95 : ¬ (c : Int) = 95 := by omega
        have n95 : ((c : Int) != 95) = true := bne_iff_ne.2 e95
        have HG := Lib.hid (HGO.out (keyE_iff.2 (by omega)))
        clear HBAD HGO hc HCI
        generalize (c : Int) = ci at *
        go_wp2_with fail
        exact ⟨⟨m + 1, HMS.out, by first | rw [WM.out _ rfl] | rfl, HG.out⟩, by have := HMS.out; (first | rw [WM.out _ rfl] | skip); simp [intOf]; omega⟩
      · -- 123 .. 255
        have g97 : (97 : Int) ≤ (c : Int) := by omega
        have g65 : (65 : Int) ≤ (c : Int) := by omega
        have g48 : (48 : Int) ≤ (c : Int) := by omega
        have l122 : ¬ (c : Int) ≤ 122 := by omega
        have l90 : ¬ (c : Int) ≤ 90 := by omega
        have l57 : ¬ (c : Int) ≤ 57 := by omega
        have e45 : ¬ (c : Int) = 45 := by omega
        have n45 : ((c : Int) != 45) = true := bne_iff_ne.2 e45
        have e95 : ¬ (c : Int) = 95 := by omega
        have n95 : ((c : Int) != 95) = true := bne_iff_ne.2 e95
        have HF := Lib.hid (HBAD.out (Bool.eq_false_iff.2 fun h => by have := keyE_iff.1 h; omega))
        clear HBAD HGO hc HCI
        generalize (c : Int) = ci at *
        go_wp2_with fail
        (try simp only [Exit.inBlock, Exit.then])
        go_ret
        exact ⟨by rw [HF.out]; rfl, HBW.out⟩
    · have hmi : ¬ (m : Int) < (s.size : Int) := by omega
      have HT : Hid (keyB s.data.toList = true) := by
        show _ = _
        rw [HA.out]
        exact all_yes fun j hj => HNO.out j (by rw [← HSZ.out] at hj; omega)
      clear hms hm
      go_wp2_with fail
      go_ret
      exact ⟨by rw [HT.out]; rfl, HBW.out⟩
end Go.Proofs.YthokcdjmhhlcdaaGreatDoor
