/- What is pending is taken back; how many bytes are alike: the walks. -/
import Derived.Test.YtkpnmagcmpljoaaFlush
import Derived.BigQuiet
import Derived.Deep.QuietTactic
namespace Go.Proofs.Ytkpnmagcmpljoaa
open Go.RowKit
set_option linter.unusedVariables false
theorem Raw.below {w w' : World} {s0 Wb Mb : Nat} {dv : Value} {dn : Nat} {D : List Int} {pv : Value} {pn : Nat} {P : List Int} (h : Raw w s0 Wb Mb dv dn D pv pn P) (hb : Below w.heap.size w w') : Raw w' s0 Wb Mb dv dn D pv pn P := by
  have hL := h.lt
  obtain ⟨hh, hd, hp, h1, h2, h3, h4⟩ := h
  exact ⟨(hb.block Wb hL).trans hh, hd.below hb, hp.below hb, h1, h2, Nat.lt_of_lt_of_le h3 hb.size, h4⟩
theorem drop_cons0 (xs : List Int) (k : Nat) (h : k < xs.length) : xs.drop k = xs[k]?.getD 0 :: xs.drop (k + 1) := by
  rw [List.drop_eq_getElem_cons h, List.getElem?_eq_getElem h]; rfl
theorem sub_rule2 (s k j : Nat) (h : s = j + 1 + k) : ∀ s' : Int, s' = (s : Int) → s' - 1 - (k : Int) = (j : Int) := fun s' h' => by rw [h', h]; omega
theorem suffix_next (P B : List Int) (j i1 i2 : Nat) (h1 : P.length = i1 + 1 + j) (h2 : B.length = i2 + 1 + j) (h : P.drop (P.length - j) = B.drop (B.length - j)) (he : P[i1]?.getD 0 = B[i2]?.getD 0) :
    P.drop (P.length - (j + 1)) = B.drop (B.length - (j + 1)) := by
  rw [show P.length - (j + 1) = i1 by omega, show B.length - (j + 1) = i2 by omega, drop_cons0 P i1 (by omega), drop_cons0 B i2 (by omega), he, show i1 + 1 = P.length - j by omega, show i2 + 1 = B.length - j by omega, h]
theorem Mid.at {w : World} {base : Nat} {a : Option Addr} {n c : Nat} {xs : List Int} (h : Mid w base (.slice a n c) n xs) (hn : 0 < n) : ∃ g o, a = some ⟨g, o, none⟩ ∧ ∀ j, j < n → w.cell? ⟨g, o + j, none⟩ = some (.int .u8 (xs[j]?.getD 0)) := by
  obtain ⟨hl, ⟨e, h0⟩ | ⟨g, o, cap, e, hb, hlt, hnc, hc, hr, ht⟩⟩ := h
  · omega
  · simp only [Value.slice.injEq, true_and] at e
    obtain ⟨rfl, rfl⟩ := e
    refine ⟨g, o, rfl, fun j hj => hr j _ ?_⟩
    unfold U8
    rw [List.getElem?_map, List.getElem?_eq_getElem (by omega)]
    rfl
set_option maxRecDepth 100000 in
set_option maxHeartbeats 8000000 in
theorem back_any (s0 Wb Mb : Nat) (D P : List Int) (a : Option Addr) (m c : Nat) (bs : List Int) (hmc : m ≤ c) (hcm : c ≤ 9223372036854775807) (hP : P.length ≤ 1000000000) (w : World) (hs : s0 ≤ w.heap.size) (H : Wr w s0 Wb Mb D P) (HBS : Bytes w a m bs) :
    Calls Try.prog 23 #[.pointer (some ⟨Wb, 0, none⟩), .slice a m c] w fun e w' => (∃ j : Nat, e = .returned (.int .i64 (j : Int)) ∧ j ≤ P.length ∧ j ≤ m ∧ P.drop (P.length - j) = bs.drop (m - j) ∧ Wr w' s0 Wb Mb D (P.take (P.length - j))) ∧ Fr s0 Mb w w' := by
  obtain ⟨dv, pv, dn, pn, hw⟩ := H
  obtain ⟨pa, pc, rfl, hpc, hpnil, hpm⟩ := hw.2.2.1.shape
  obtain ⟨hc0, hc1, hf0, hf1⟩ := raw_cells hw.1
  have hpl : P.length = pn := hw.2.2.1.1
  have hbl : bs.length = m := HBS.1
  have HR := Lib.hid hw
  have HY := Lib.hid HBS
  rw [hpl] at hP ⊢
  have HPL := Lib.hid hpl
  have HBL := Lib.hid hbl
  clear hw HBS hpl hbl hpnil
  go_enter Try.func23, Try.ntmps23
  go_wp2_with fail
  go_quiet (fail)
  have HB0 : Hid (Below w.heap.size w (w.drewN nq)) := ⟨rfl, rfl, rfl, Nat.le_refl _, fun _ _ => rfl⟩
  clear hc0 hc1 hf0 hf1
  generalize w.drewN nq = wq at *
  go_wp2_with fail
  go_loopw [5] (fun v wr => ∃ j : Nat, v = .int .i64 (j : Int) ∧ j ≤ pn ∧ j ≤ m ∧ P.drop (P.length - j) = bs.drop (bs.length - j) ∧ Below w.heap.size w wr) (fun v _ => pn - (intOf v).toNat)
  case atStart => exact ⟨0, rfl, by omega, by omega, by rw [Nat.sub_zero, Nat.sub_zero, List.drop_length, List.drop_length], HB0.out⟩
  case round =>
    obtain ⟨j, rfl, hjp, hjm, hsuf, hb⟩ := hrel
    have HSUF := Lib.hid hsuf
    have HB := Lib.hid hb
    have HR1 := Lib.hid (Raw.below HR.out hb)
    obtain ⟨hc0, hc1, hf0, hf1⟩ := raw_cells HR1.out.1
    clear hsuf hb HB0
    -- the end, whichever way
    have HEND : Hid (∀ wz : World, Below w.heap.size w wz → (∃ i : Nat, Value.int .i64 (j : Int) = .int .i64 (i : Int) ∧ i ≤ pn ∧ i ≤ m ∧ P.drop (pn - i) = bs.drop (m - i) ∧ Wr (wz.setCell ⟨Wb, 1, none⟩ (.slice pa (pn - j) pc)) s0 Wb Mb D (P.take (pn - i))) ∧ Fr s0 Mb w (wz.setCell ⟨Wb, 1, none⟩ (.slice pa (pn - j) pc))) := fun wz hz => by
      have hraw := Raw.below HR.out hz
      have hsz : s0 ≤ wz.heap.size := Nat.le_trans hs hz.size
      have hless := raw_less hraw hsz (hraw.2.2.1.front (pn - j) (by omega)) (by cases pa <;> rfl)
      have hsf := HSUF.out
      rw [HPL.out, HBL.out] at hsf
      exact ⟨⟨j, rfl, hjp, hjm, hsf, hless.1.wr⟩, (Fr.mk (hz.mono hs) (hz.block Mb HR.out.2.2.2.2.2.1)).trans hless.2⟩
    have hq : pn - j ≤ pc := by omega
    obtain ⟨t, ht⟩ : ∃ t, pn - j = t := ⟨_, rfl⟩
    have hsubT : ∀ s' : Int, s' = (pn : Int) → s' - (j : Int) = (t : Int) := fun s' h' => by rw [h']; omega
    rw [ht] at HEND hq
    have slT := fun W => slice_to pa pn pc t hq W
    by_cases h1 : j < pn
    · have h1i : decide ((j : Int) < (pn : Int)) = true := by simp; omega
      have h1j : (j : Int) < (pn : Int) := by omega
      by_cases h2 : j < m
      · have h2i : decide ((j : Int) < (m : Int)) = true := by simp; omega
        have h2j : (j : Int) < (m : Int) := by omega
        obtain ⟨i1, e1⟩ : ∃ i1, pn = i1 + 1 + j := ⟨pn - 1 - j, by omega⟩
        obtain ⟨i2, e2⟩ : ∃ i2, m = i2 + 1 + j := ⟨m - 1 - j, by omega⟩
        have r1 := sub_rule2 pn j i1 e1
        have r2 := sub_rule2 m j i2 e2
        obtain ⟨g, o, hpa, hpcell⟩ := HR1.out.2.2.1.at (by omega)
        subst hpa
        have q1 := hpcell i1 (by omega)
        obtain ⟨-, -, hbr, h0 | ⟨b, off, hba, hbc⟩⟩ := HY.out.below HB.out
        · omega
        subst hba
        have q2 := hbc i2 (by omega)
        have hx1 : (i1 : Int) < (pn : Int) := by omega
        have hx2 : (i2 : Int) < (m : Int) := by omega
        have HNX : Hid (P[i1]?.getD 0 = bs[i2]?.getD 0 → P.drop (P.length - (j + 1)) = bs.drop (bs.length - (j + 1))) := fun he => suffix_next P bs j i1 i2 (by rw [HPL.out]; exact e1) (by rw [HBL.out]; exact e2) HSUF.out he
        clear hpcell hbc e1 e2 hbr
        generalize P[i1]?.getD 0 = x1 at *
        generalize bs[i2]?.getD 0 = x2 at *
        by_cases hx : x1 = x2
        · have hxd : (x1 == x2) = true := by simp [hx]
          go_wp2_with fail
          go_quiet (fail)
          have HBz : Hid (Below w.heap.size w (wr.drewN nq)) := ⟨HB.out.1, HB.out.2, HB.out.3, HB.out.4, HB.out.5⟩
          generalize wr.drewN nq = wz at *
          have HNY := Lib.hid (HNX.out hx)
          go_wp2_with fail
          exact ⟨⟨j + 1, by go_num, by omega, by omega, HNY.out, HBz.out⟩, by simp [intOf]; omega⟩
        · have hxd : (x1 == x2) = false := by simp [hx]
          go_wp2_with fail
          go_quiet (fail)
          have HBz : Hid (Below w.heap.size w (wr.drewN nq)) := ⟨HB.out.1, HB.out.2, HB.out.3, HB.out.4, HB.out.5⟩
          generalize wr.drewN nq = wz at *
          have HR2 := Raw.below HR.out HBz.out
          obtain ⟨kc0, kc1, kf0, kf1⟩ := raw_cells HR2.1
          have HE := Lib.hid (HEND.out wz HBz.out)
          clear HR2
          go_wp2_with fail
          go_ret
          obtain ⟨⟨i, hi, hj⟩, hfr⟩ := HE.out
          exact ⟨⟨i, congrArg Ending.returned hi, hj⟩, hfr⟩
      · have h2i : decide ((j : Int) < (m : Int)) = false := by simp; omega
        go_wp2_with fail
        go_quiet (fail)
        have HBz : Hid (Below w.heap.size w (wr.drewN nq)) := ⟨HB.out.1, HB.out.2, HB.out.3, HB.out.4, HB.out.5⟩
        generalize wr.drewN nq = wz at *
        have HR2 := Raw.below HR.out HBz.out
        obtain ⟨kc0, kc1, kf0, kf1⟩ := raw_cells HR2.1
        have HE := Lib.hid (HEND.out wz HBz.out)
        clear HR2
        go_wp2_with fail
        go_ret
        obtain ⟨⟨i, hi, hj⟩, hfr⟩ := HE.out
        exact ⟨⟨i, congrArg Ending.returned hi, hj⟩, hfr⟩
    · have h1i : decide ((j : Int) < (pn : Int)) = false := by simp; omega
      go_wp2_with fail
      go_quiet (fail)
      have HBz : Hid (Below w.heap.size w (wr.drewN nq)) := ⟨HB.out.1, HB.out.2, HB.out.3, HB.out.4, HB.out.5⟩
      generalize wr.drewN nq = wz at *
      have HR2 := Raw.below HR.out HBz.out
      obtain ⟨kc0, kc1, kf0, kf1⟩ := raw_cells HR2.1
      have HE := Lib.hid (HEND.out wz HBz.out)
      clear HR2
      go_wp2_with fail
      go_ret
      obtain ⟨⟨i, hi, hj⟩, hfr⟩ := HE.out
      exact ⟨⟨i, congrArg Ending.returned hi, hj⟩, hfr⟩
end Go.Proofs.Ytkpnmagcmpljoaa
