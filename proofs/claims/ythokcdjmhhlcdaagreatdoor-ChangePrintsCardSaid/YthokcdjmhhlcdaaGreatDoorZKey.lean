/- The document's keyed: the walk. -/
import Derived.Test.YthokcdjmhhlcdaaGreatDoorZNum
namespace Go.Proofs.YthokcdjmhhlcdaaGreatDoor
open Go.RowKit Plain
set_option linter.unusedVariables false
set_option linter.unusedSimpArgs false
set_option maxRecDepth 100000 in
set_option maxHeartbeats 16000000 in
theorem keyed_any (s : ByteArray) (w : World) :
    Calls Tryz.prog 19 #[.string s] w fun e w' => e = .returned (.bool (keyB s.data.toList)) ∧ Below w.heap.size w w' := by
  have HSZ := Lib.hid (Lib.size_eq s)
  by_cases hn0 : s.size = 0
  · have HF := Lib.hid (keyB_none hn0)
    have hlt : (s.size : Int) < 1 := by omega
    go_enter Tryz.func19, Tryz.ntmps19
    go_wp2_with fail
    go_ret
    exact ⟨by rw [HF.out]; rfl, Below.refl _ _⟩
  have hlt : ¬ (s.size : Int) < 1 := by omega
  by_cases h100 : 100 < s.size
  · have HF := Lib.hid (keyB_far h100)
    have hgt : (100 : Int) < (s.size : Int) := by omega
    go_enter Tryz.func19, Tryz.ntmps19
    go_wp2_with fail
    go_ret
    exact ⟨by rw [HF.out]; rfl, Below.refl _ _⟩
  have HA := Lib.hid (keyB_all hn0 h100)
  have hgt : ¬ (100 : Int) < (s.size : Int) := by omega
  have HS1 : Hid (s.size ≤ 100) := by show _ ≤ _; omega
  go_enter Tryz.func19, Tryz.ntmps19
  go_wp2_with fail
  clear hn0 h100 hlt hgt
  go_loopw [3] (fun i wr => ∃ m : Nat, m ≤ s.size ∧ i = .int .i64 (m : Int) ∧ (∀ j, j < m → keyByte (s.data.toList[j]?.getD 0) = true) ∧ wr = w) (fun i _ => s.size - (intOf i).toNat)
  case atStart => exact ⟨0, Nat.zero_le _, rfl, fun j hj => by omega, rfl⟩
  case round =>
    obtain ⟨m, hm, rfl, hok, rfl⟩ := hrel
    have HOK := Lib.hid hok
    have WM := Lib.hid (next_int m (by have := HS1.out; omega))
    clear hok
    by_cases hms : m < s.size
    · have hmi : (m : Int) < (s.size : Int) := by omega
      have HMS := Lib.hid hms
      have hix := fun W => index_text s m hms (m : Int) rfl W
      obtain ⟨q, hq⟩ : ∃ q, s.data.toList[m]?.getD 0 = q := ⟨_, rfl⟩
      rw [show at8 s m = q.toNat by unfold at8; rw [hq]] at hix
      have HBAD : Hid (keyE q.toNat = false → keyB s.data.toList = false) := fun h => by
        rw [HA.out]
        exact all_not (m := m) (by rw [← HSZ.out]; exact HMS.out) (by rw [hq]; exact h)
      have HGO : Hid (keyE q.toNat = true → ∀ j, j < m + 1 → keyByte (s.data.toList[j]?.getD 0) = true) := fun h j hj => by
        by_cases hjm : j = m
        · subst hjm; rw [hq]; exact h
        · exact HOK.out j (by omega)
      have HCI : Hid (q.toNat ≤ 255) := by show _ ≤ _; have := q.toNat_lt; omega
      clear hms hm hq
      generalize q.toNat = c at *
      have hc255 : c ≤ 255 := HCI.out
      have hcs : (0 ≤ c ∧ c ≤ 44) ∨ (45 ≤ c ∧ c ≤ 45) ∨ (46 ≤ c ∧ c ≤ 47) ∨ (48 ≤ c ∧ c ≤ 57) ∨ (58 ≤ c ∧ c ≤ 64) ∨ (65 ≤ c ∧ c ≤ 90) ∨ (91 ≤ c ∧ c ≤ 94) ∨ (95 ≤ c ∧ c ≤ 95) ∨ (96 ≤ c ∧ c ≤ 96) ∨ (97 ≤ c ∧ c ≤ 122) ∨ (123 ≤ c ∧ c ≤ 255) := by omega
      clear hc255
      rcases hcs with hc | hc | hc | hc | hc | hc | hc | hc | hc | hc | hc
      · -- 0 .. 44
        have g97 : ¬ (97 : Int) ≤ (c : Int) := by omega
        have g65 : ¬ (65 : Int) ≤ (c : Int) := by omega
        have g48 : ¬ (48 : Int) ≤ (c : Int) := by omega
        have l122 : (c : Int) ≤ 122 := by omega
        have l90 : (c : Int) ≤ 90 := by omega
        have l57 : (c : Int) ≤ 57 := by omega
        have e45 : ¬ (c : Int) = 45 := by omega
        have n45 : ((c : Int) != 45) = true := bne_iff_ne.2 e45
        have e95 : ¬ (c : Int) = 95 := by omega
        have n95 : ((c : Int) != 95) = true := bne_iff_ne.2 e95
        have HF := Lib.hid (HBAD.out (Bool.eq_false_iff.2 fun h => by have := keyE_iff.1 h; omega))
        clear HBAD HGO hc HCI
        generalize (c : Int) = ci at *
        go_wp2_with fail
        (try simp only [Exit.inBlock, Exit.then])
        go_ret
        exact ⟨by rw [HF.out]; rfl, Below.refl _ _⟩
      · -- 45 .. 45
        have g97 : ¬ (97 : Int) ≤ (c : Int) := by omega
        have g65 : ¬ (65 : Int) ≤ (c : Int) := by omega
        have g48 : ¬ (48 : Int) ≤ (c : Int) := by omega
        have l122 : (c : Int) ≤ 122 := by omega
        have l90 : (c : Int) ≤ 90 := by omega
        have l57 : (c : Int) ≤ 57 := by omega
        have e45 : (c : Int) = 45 := by omega
        have n45 : ((c : Int) != 45) = false := by rw [e45]; rfl
        clear e45
        have e95 : ¬ (c : Int) = 95 := by omega
        have n95 : ((c : Int) != 95) = true := bne_iff_ne.2 e95
        have HG := Lib.hid (HGO.out (keyE_iff.2 (by omega)))
        clear HBAD HGO hc HCI
        generalize (c : Int) = ci at *
        go_wp2_with fail
        exact ⟨⟨m + 1, HMS.out, by first | rw [WM.out _ rfl] | rfl, HG.out, by first | rfl | trivial⟩, by have := HMS.out; (first | rw [WM.out _ rfl] | skip); simp [intOf]; omega⟩
      · -- 46 .. 47
        have g97 : ¬ (97 : Int) ≤ (c : Int) := by omega
        have g65 : ¬ (65 : Int) ≤ (c : Int) := by omega
        have g48 : ¬ (48 : Int) ≤ (c : Int) := by omega
        have l122 : (c : Int) ≤ 122 := by omega
        have l90 : (c : Int) ≤ 90 := by omega
        have l57 : (c : Int) ≤ 57 := by omega
        have e45 : ¬ (c : Int) = 45 := by omega
        have n45 : ((c : Int) != 45) = true := bne_iff_ne.2 e45
        have e95 : ¬ (c : Int) = 95 := by omega
        have n95 : ((c : Int) != 95) = true := bne_iff_ne.2 e95
        have HF := Lib.hid (HBAD.out (Bool.eq_false_iff.2 fun h => by have := keyE_iff.1 h; omega))
        clear HBAD HGO hc HCI
        generalize (c : Int) = ci at *
        go_wp2_with fail
        (try simp only [Exit.inBlock, Exit.then])
        go_ret
        exact ⟨by rw [HF.out]; rfl, Below.refl _ _⟩
      · -- 48 .. 57
        have g97 : ¬ (97 : Int) ≤ (c : Int) := by omega
        have g65 : ¬ (65 : Int) ≤ (c : Int) := by omega
        have g48 : (48 : Int) ≤ (c : Int) := by omega
        have l122 : (c : Int) ≤ 122 := by omega
        have l90 : (c : Int) ≤ 90 := by omega
        have l57 : (c : Int) ≤ 57 := by omega
        have e45 : ¬ (c : Int) = 45 := by omega
        have n45 : ((c : Int) != 45) = true := bne_iff_ne.2 e45
        have e95 : ¬ (c : Int) = 95 := by omega
        have n95 : ((c : Int) != 95) = true := bne_iff_ne.2 e95
        have HG := Lib.hid (HGO.out (keyE_iff.2 (by omega)))
        clear HBAD HGO hc HCI
        generalize (c : Int) = ci at *
        go_wp2_with fail
        exact ⟨⟨m + 1, HMS.out, by first | rw [WM.out _ rfl] | rfl, HG.out, by first | rfl | trivial⟩, by have := HMS.out; (first | rw [WM.out _ rfl] | skip); simp [intOf]; omega⟩
      · -- 58 .. 64
        have g97 : ¬ (97 : Int) ≤ (c : Int) := by omega
        have g65 : ¬ (65 : Int) ≤ (c : Int) := by omega
        have g48 : (48 : Int) ≤ (c : Int) := by omega
        have l122 : (c : Int) ≤ 122 := by omega
        have l90 : (c : Int) ≤ 90 := by omega
        have l57 : ¬ (c : Int) ≤ 57 := by omega
        have e45 : ¬ (c : Int) = 45 := by omega
        have n45 : ((c : Int) != 45) = true := bne_iff_ne.2 e45
        have e95 : ¬ (c : Int) = 95 := by omega
        have n95 : ((c : Int) != 95) = true := bne_iff_ne.2 e95
        have HF := Lib.hid (HBAD.out (Bool.eq_false_iff.2 fun h => by have := keyE_iff.1 h; omega))
        clear HBAD HGO hc HCI
        generalize (c : Int) = ci at *
        go_wp2_with fail
        (try simp only [Exit.inBlock, Exit.then])
        go_ret
        exact ⟨by rw [HF.out]; rfl, Below.refl _ _⟩
      · -- 65 .. 90
        have g97 : ¬ (97 : Int) ≤ (c : Int) := by omega
        have g65 : (65 : Int) ≤ (c : Int) := by omega
        have g48 : (48 : Int) ≤ (c : Int) := by omega
        have l122 : (c : Int) ≤ 122 := by omega
        have l90 : (c : Int) ≤ 90 := by omega
        have l57 : ¬ (c : Int) ≤ 57 := by omega
        have e45 : ¬ (c : Int) = 45 := by omega
        have n45 : ((c : Int) != 45) = true := bne_iff_ne.2 e45
        have e95 : ¬ (c : Int) = 95 := by omega
        have n95 : ((c : Int) != 95) = true := bne_iff_ne.2 e95
        have HG := Lib.hid (HGO.out (keyE_iff.2 (by omega)))
        clear HBAD HGO hc HCI
        generalize (c : Int) = ci at *
        go_wp2_with fail
        exact ⟨⟨m + 1, HMS.out, by first | rw [WM.out _ rfl] | rfl, HG.out, by first | rfl | trivial⟩, by have := HMS.out; (first | rw [WM.out _ rfl] | skip); simp [intOf]; omega⟩
      · -- 91 .. 94
        have g97 : ¬ (97 : Int) ≤ (c : Int) := by omega
        have g65 : (65 : Int) ≤ (c : Int) := by omega
        have g48 : (48 : Int) ≤ (c : Int) := by omega
        have l122 : (c : Int) ≤ 122 := by omega
        have l90 : ¬ (c : Int) ≤ 90 := by omega
        have l57 : ¬ (c : Int) ≤ 57 := by omega
        have e45 : ¬ (c : Int) = 45 := by omega
        have n45 : ((c : Int) != 45) = true := bne_iff_ne.2 e45
        have e95 : ¬ (c : Int) = 95 := by omega
        have n95 : ((c : Int) != 95) = true := bne_iff_ne.2 e95
        have HF := Lib.hid (HBAD.out (Bool.eq_false_iff.2 fun h => by have := keyE_iff.1 h; omega))
        clear HBAD HGO hc HCI
        generalize (c : Int) = ci at *
        go_wp2_with fail
        (try simp only [Exit.inBlock, Exit.then])
        go_ret
        exact ⟨by rw [HF.out]; rfl, Below.refl _ _⟩
      · -- 95 .. 95
        have g97 : ¬ (97 : Int) ≤ (c : Int) := by omega
        have g65 : (65 : Int) ≤ (c : Int) := by omega
        have g48 : (48 : Int) ≤ (c : Int) := by omega
        have l122 : (c : Int) ≤ 122 := by omega
        have l90 : ¬ (c : Int) ≤ 90 := by omega
        have l57 : ¬ (c : Int) ≤ 57 := by omega
        have e45 : ¬ (c : Int) = 45 := by omega
        have n45 : ((c : Int) != 45) = true := bne_iff_ne.2 e45
        have e95 : (c : Int) = 95 := by omega
        have n95 : ((c : Int) != 95) = false := by rw [e95]; rfl
        clear e95
        have HG := Lib.hid (HGO.out (keyE_iff.2 (by omega)))
        clear HBAD HGO hc HCI
        generalize (c : Int) = ci at *
        go_wp2_with fail
        exact ⟨⟨m + 1, HMS.out, by first | rw [WM.out _ rfl] | rfl, HG.out, by first | rfl | trivial⟩, by have := HMS.out; (first | rw [WM.out _ rfl] | skip); simp [intOf]; omega⟩
      · -- 96 .. 96
        have g97 : ¬ (97 : Int) ≤ (c : Int) := by omega
        have g65 : (65 : Int) ≤ (c : Int) := by omega
        have g48 : (48 : Int) ≤ (c : Int) := by omega
        have l122 : (c : Int) ≤ 122 := by omega
        have l90 : ¬ (c : Int) ≤ 90 := by omega
        have l57 : ¬ (c : Int) ≤ 57 := by omega
        have e45 : ¬ (c : Int) = 45 := by omega
        have n45 : ((c : Int) != 45) = true := bne_iff_ne.2 e45
        have e95 : ¬ (c : Int) = 95 := by omega
        have n95 : ((c : Int) != 95) = true := bne_iff_ne.2 e95
        have HF := Lib.hid (HBAD.out (Bool.eq_false_iff.2 fun h => by have := keyE_iff.1 h; omega))
        clear HBAD HGO hc HCI
        generalize (c : Int) = ci at *
        go_wp2_with fail
        (try simp only [Exit.inBlock, Exit.then])
        go_ret
        exact ⟨by rw [HF.out]; rfl, Below.refl _ _⟩
      · -- 97 .. 122
        have g97 : (97 : Int) ≤ (c : Int) := by omega
        have g65 : (65 : Int) ≤ (c : Int) := by omega
        have g48 : (48 : Int) ≤ (c : Int) := by omega
        have l122 : (c : Int) ≤ 122 := by omega
        have l90 : ¬ (c : Int) ≤ 90 := by omega
        have l57 : ¬ (c : Int) ≤ 57 := by omega
        have e45 : ¬ (c : Int) = 45 := by omega
        have n45 : ((c : Int) != 45) = true := bne_iff_ne.2 e45
        have e95 : ¬ (c : Int) = 95 := by omega
        have n95 : ((c : Int) != 95) = true := bne_iff_ne.2 e95
        have HG := Lib.hid (HGO.out (keyE_iff.2 (by omega)))
        clear HBAD HGO hc HCI
        generalize (c : Int) = ci at *
        go_wp2_with fail
        exact ⟨⟨m + 1, HMS.out, by first | rw [WM.out _ rfl] | rfl, HG.out, by first | rfl | trivial⟩, by have := HMS.out; (first | rw [WM.out _ rfl] | skip); simp [intOf]; omega⟩
      · -- 123 .. 255
        have g97 : (97 : Int) ≤ (c : Int) := by omega
        have g65 : (65 : Int) ≤ (c : Int) := by omega
        have g48 : (48 : Int) ≤ (c : Int) := by omega
        have l122 : ¬ (c : Int) ≤ 122 := by omega
        have l90 : ¬ (c : Int) ≤ 90 := by omega
        have l57 : ¬ (c : Int) ≤ 57 := by omega
        have e45 : ¬ (c : Int) = 45 := by omega
        have n45 : ((c : Int) != 45) = true := bne_iff_ne.2 e45
        have e95 : ¬ (c : Int) = 95 := by omega
        have n95 : ((c : Int) != 95) = true := bne_iff_ne.2 e95
        have HF := Lib.hid (HBAD.out (Bool.eq_false_iff.2 fun h => by have := keyE_iff.1 h; omega))
        clear HBAD HGO hc HCI
        generalize (c : Int) = ci at *
        go_wp2_with fail
        (try simp only [Exit.inBlock, Exit.then])
        go_ret
        exact ⟨by rw [HF.out]; rfl, Below.refl _ _⟩
    · have hmi : ¬ (m : Int) < (s.size : Int) := by omega
      have HT : Hid (keyB s.data.toList = true) := by
        show _ = _
        rw [HA.out]
        exact all_yes fun j hj => HOK.out j (by rw [← HSZ.out] at hj; omega)
      go_wp2_with fail
      go_ret
      exact ⟨by rw [HT.out]; rfl, Below.refl _ _⟩
end Go.Proofs.YthokcdjmhhlcdaaGreatDoor
