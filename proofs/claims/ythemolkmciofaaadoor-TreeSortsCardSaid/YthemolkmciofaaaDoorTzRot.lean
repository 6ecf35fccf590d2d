/- Two rows of entries that change places: slices.rotateCmpFunc. -/
import Derived.Test.YthemolkmciofaaaDoorTzSwap
namespace Go.Proofs.YthemolkmciofaaaDoor
open Go.RowKit Plain Go.ChangeShapes Go.WideShapes Go.ChangeAt Go.Great
set_option linter.unusedVariables false
set_option linter.unusedSimpArgs false
theorem sub_nat (x y z : Nat) (h : x = z + y) (hb : x ≤ 1000000) : wrap64 ((x : Int) - (y : Int)) = (z : Int) := by
  rw [show (x : Int) - (y : Int) = (z : Int) by omega]
  exact w64 _ (by omega) (by omega)
theorem add_nat (x y z : Nat) (h : x + y = z) (hb : z ≤ 1000000) : wrap64 ((x : Int) + (y : Int)) = (z : Int) := by
  rw [show (x : Int) + (y : Int) = (z : Int) by omega]
  exact w64 _ (by omega) (by omega)
set_option maxRecDepth 100000 in
set_option maxHeartbeats 16000000 in
theorem rotate_any (D T : List TE) (g n c a m b base : Nat) (f : Value) (w : World) (h : OwnE 30 w base (.slice (some ⟨g, 0, none⟩) n c) D) (hn : n ≤ 100000) (ha : a < m) (hb : m < b) (hbn : b ≤ n) (hR : Rot D m (m - a) (b - m) T) (hbase : base ≤ w.heap.size) :
    Calls Tryd.prog 36 #[.slice (some ⟨g, 0, none⟩) n c, .int .i64 (a : Int), .int .i64 (m : Int), .int .i64 (b : Int), f] w fun e w' => e = .returned (.tuple #[]) ∧ OwnE 30 w' base (.slice (some ⟨g, 0, none⟩) n c) T ∧ Below base w w' := by
  have H0 := Lib.hid h
  have HNB := Lib.hid hn
  have HR0 := Lib.hid hR
  have HLIM : Hid (a < m ∧ m < b ∧ b ≤ n) := ⟨ha, hb, hbn⟩
  have HBS := Lib.hid hbase
  obtain ⟨i0, hi0⟩ : ∃ i, m - a = i := ⟨_, rfl⟩
  obtain ⟨j0, hj0⟩ : ∃ i, b - m = i := ⟨_, rfl⟩
  rw [hi0, hj0] at HR0
  have HWI := Lib.hid (sub_nat m a i0 (by omega) (by omega))
  have HWJ := Lib.hid (sub_nat b m j0 (by omega) (by omega))
  have HIJ : Hid (1 ≤ i0 ∧ 1 ≤ j0 ∧ i0 ≤ m ∧ m + j0 ≤ n) := by show _ ∧ _ ∧ _ ∧ _; omega
  clear h hn hR ha hb hbn hbase hi0 hj0
  go_enter Tryd.func36, Tryd.ntmps36
  go_wp2_with fail
  go_loopw [10, 11] (fun x y wr => ∃ (i j : Nat) (L : List TE), x = .int .i64 (i : Int) ∧ y = .int .i64 (j : Int) ∧ 1 ≤ i ∧ 1 ≤ j ∧ i ≤ m ∧ m + j ≤ n ∧ Rot L m i j T ∧ OwnE 30 wr base (.slice (some ⟨g, 0, none⟩) n c) L ∧ Below base w wr) (fun x y _ => (intOf x).toNat + (intOf y).toNat)
  case atStart => exact ⟨i0, j0, D, by first | rw [HWI.out] | rfl, by first | rw [HWJ.out] | rfl, HIJ.out.1, HIJ.out.2.1, HIJ.out.2.2.1, HIJ.out.2.2.2, HR0.out, H0.out, Below.refl _ _⟩
  case round =>
    obtain ⟨i, j, L, rfl, rfl, hi1, hj1, him, hjn, hrot, ho, hbl⟩ := hrel
    have HO := Lib.hid ho
    have HB := Lib.hid hbl
    have HRT := Lib.hid hrot
    have HQ : Hid (1 ≤ i ∧ 1 ≤ j ∧ i ≤ m ∧ m + j ≤ n) := ⟨hi1, hj1, him, hjn⟩
    have HBW : Hid (base ≤ wr.heap.size) := Nat.le_trans HBS.out hbl.size
    obtain ⟨p, hp⟩ : ∃ p, m = p + i := ⟨m - i, by omega⟩
    have HP := Lib.hid hp
    have HWP := Lib.hid (sub_nat m i p hp (by have := HNB.out; omega))
    clear ho hbl hrot
    by_cases hij : i = j
    · subst hij
      have HS : Hid (Calls Tryd.prog 46 #[.slice (some ⟨g, 0, none⟩) n c, .int .i64 (p : Int), .int .i64 (m : Int), .int .i64 (i : Int), f] wr fun e w' => e = .returned (.tuple #[]) ∧ OwnE 30 w' base (.slice (some ⟨g, 0, none⟩) n c) (swapN L p m i) ∧ Below base wr w') := swaprange_any L g n c p m i base f wr HO.out HNB.out (by omega) (by omega) HBW.out
      have HT : Hid (swapN L p m i = T) := by
        have h := HRT.out.done
        rwa [show m - i = p by omega] at h
      clear hi1 hj1 him hjn hp
      have hwp := HWP.out
      go_wp2_with fail
      refine HS.out.mono ?_
      rintro e w1 ⟨rfl, ho, hb⟩
      have HO1 := Lib.hid ho
      have HB1 := Lib.hid (HB.out.trans hb)
      clear ho hb
      go_wp2_with fail
      refine bodyPost_end (results_none rfl _ _ _) rfl ?_
      exact ⟨rfl, by rw [← HT.out]; exact HO1.out, HB1.out⟩
    · have hne : ¬ (i : Int) = (j : Int) := by omega
      have hnb : ((i : Int) != (j : Int)) = true := by simp only [bne_iff_ne, ne_eq]; omega
      by_cases hgt : j < i
      · have hgi : (j : Int) < (i : Int) := by omega
        obtain ⟨d, hd⟩ : ∃ d, i = d + j := ⟨i - j, by omega⟩
        have HWD := Lib.hid (sub_nat i j d hd (by have := HNB.out; omega))
        have HS : Hid (Calls Tryd.prog 46 #[.slice (some ⟨g, 0, none⟩) n c, .int .i64 (p : Int), .int .i64 (m : Int), .int .i64 (j : Int), f] wr fun e w' => e = .returned (.tuple #[]) ∧ OwnE 30 w' base (.slice (some ⟨g, 0, none⟩) n c) (swapN L p m j) ∧ Below base wr w') := swaprange_any L g n c p m j base f wr HO.out HNB.out (by omega) (by omega) HBW.out
        have HT : Hid (Rot (swapN L p m j) m d j T) := by
          have h := HRT.out.big hgt
          rwa [show m - i = p by omega, show i - j = d by omega] at h
        have HQ2 : Hid (1 ≤ d ∧ 1 ≤ j ∧ d ≤ m ∧ m + j ≤ n ∧ d + j < i + j) := by show _ ∧ _ ∧ _ ∧ _ ∧ _; omega
        clear hi1 hj1 him hjn hp hgt hij hd
        have hwp := HWP.out
        have hwd := HWD.out
        go_wp2_with fail
        refine HS.out.mono ?_
        rintro e w1 ⟨rfl, ho, hb⟩
        have HO1 := Lib.hid ho
        have HB1 := Lib.hid (HB.out.trans hb)
        clear ho hb
        go_wp2_with fail
        exact ⟨⟨d, j, _, by first | rw [HWD.out] | rfl, rfl, HQ2.out.1, HQ2.out.2.1, HQ2.out.2.2.1, HQ2.out.2.2.2.1, HT.out, HO1.out, HB1.out⟩, by have := HQ2.out.2.2.2.2; clear hwp hwd; (first | rw [HWD.out] | skip); simp [intOf]; omega⟩
      · have hgi : ¬ (j : Int) < (i : Int) := by omega
        obtain ⟨d, hd⟩ : ∃ d, j = d + i := ⟨j - i, by omega⟩
        obtain ⟨s, hs⟩ : ∃ s, m + j = s := ⟨_, rfl⟩
        obtain ⟨q, hq⟩ : ∃ q, s = q + i := ⟨s - i, by omega⟩
        have HWD := Lib.hid (sub_nat j i d hd (by have := HNB.out; omega))
        have HWS := Lib.hid (add_nat m j s hs (by have := HNB.out; omega))
        have HWQ := Lib.hid (sub_nat s i q hq (by have := HNB.out; omega))
        have HS : Hid (Calls Tryd.prog 46 #[.slice (some ⟨g, 0, none⟩) n c, .int .i64 (p : Int), .int .i64 (q : Int), .int .i64 (i : Int), f] wr fun e w' => e = .returned (.tuple #[]) ∧ OwnE 30 w' base (.slice (some ⟨g, 0, none⟩) n c) (swapN L p q i) ∧ Below base wr w') := swaprange_any L g n c p q i base f wr HO.out HNB.out (by omega) (by omega) HBW.out
        have HT : Hid (Rot (swapN L p q i) m i d T) := by
          have h := HRT.out.small (by omega)
          rwa [show m - i = p by omega, show m + j - i = q by omega, show j - i = d by omega] at h
        have HQ2 : Hid (1 ≤ i ∧ 1 ≤ d ∧ i ≤ m ∧ m + d ≤ n ∧ i + d < i + j) := by show _ ∧ _ ∧ _ ∧ _ ∧ _; omega
        clear hi1 hj1 him hjn hp hgt hij hd hs hq
        have hwp := HWP.out
        have hwd := HWD.out
        have hws := HWS.out
        have hwq := HWQ.out
        go_wp2_with fail
        refine HS.out.mono ?_
        rintro e w1 ⟨rfl, ho, hb⟩
        have HO1 := Lib.hid ho
        have HB1 := Lib.hid (HB.out.trans hb)
        clear ho hb
        go_wp2_with fail
        exact ⟨⟨i, d, _, rfl, by first | rw [HWD.out] | rfl, HQ2.out.1, HQ2.out.2.1, HQ2.out.2.2.1, HQ2.out.2.2.2.1, HT.out, HO1.out, HB1.out⟩, by have := HQ2.out.2.2.2.2; clear hwp hwd; (first | rw [HWD.out] | skip); simp [intOf]; omega⟩
end Go.Proofs.YthemolkmciofaaaDoor
