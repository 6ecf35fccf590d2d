/- The steps of Raw: block after block. -/
import Derived.Test.YtkminkeaeclanaaBlock
import Derived.Test.YtkminkeaeclanaaRawMath
namespace Go.Proofs.Ytkminkeaeclanaa
open Go.RowKit Plain
set_option linter.unusedVariables false
set_option maxRecDepth 100000 in
set_option maxHeartbeats 4000000 in
theorem rawSteps_any {w0 : World} {Ob : Nat} {ba : Option Addr} {bc N most : Nat} {bs : List Int} (HS : SrcB w0 ba bs.length bc N most bs) (w : World) (p : Nat) (mv : Value) (made : List Int) (H : OutL 8 w0 Ob ba bs.length bc N most w p mv made) :
    Calls Try.prog 15 #[.pointer (some ⟨Ob, 0, none⟩)] w (Mad w0 Ob ba bs.length bc N most w mv (rawAt bs N most p made)) := by
  have HSS := Lib.hid HS
  have HO := Lib.hid H
  clear HS H
  go_enter Try.func15, Try.ntmps15
  go_wp2_with fail
  go_loopw [1] (fun v wr => ∃ (l q : Nat) (m : List Int) (mv' : Value), v = .int .i64 (l : Int) ∧ l ≤ 1 ∧ OutL 8 w0 Ob ba bs.length bc N most wr q mv' m ∧ Turn Ob mv mv' w wr ∧ rawAt bs N most p made = (if l = 0 then rawAt bs N most q m else .ok (q, m))) (fun _ wr => 8 * bs.length + 1 - posB Ob wr)
  case atStart => exact ⟨0, p, made, mv, rfl, by omega, HO.out, Turn.refl _ _ _, rfl⟩
  case round =>
    obtain ⟨l, q, m, mv1, rfl, hl, ho, ht, hs⟩ := hrel
    have HO1 := Lib.hid ho
    have HT1 := Lib.hid ht
    have hq8 := ho.pos
    have hpB := posB_of ho
    have HPB := Lib.hid hpB
    have HS1 := Lib.hid hs
    clear ho ht hs HO hpB
    have hl2 : l = 0 ∨ l = 1 := by omega
    rcases hl2 with rfl | rfl
    · have hstep : Hid (rawAt bs N most p made = contR (rawAt bs N most) (stepR bs N (8 * bs.length) most q m)) := by
        show _ = _
        rw [HS1.out, if_pos rfl, rawAt_step hq8]
      have hcall := one_any HSS.out wr q mv1 m HO1.out
      clear HS1
      go_wp2_with fail
      refine hcall.mono ?_
      intro e w2 hgot
      obtain ⟨last, r, hr, rfl, ht, ho⟩ | ⟨k, hr, rfl, ht⟩ := hgot.lift
      · have h1 := num_ok hr
        have HR := Lib.hid hr
        have HO2 := Lib.hid ho
        have HT2 := Lib.hid (HT1.out.trans ht)
        have hnum := number_any HSS.out w2 r mv1 m ho 2 (by omega)
        clear hcall hgot hr ht ho
        go_wp2_with fail
        refine hnum.mono ?_
        intro e w3 hgot
        obtain ⟨kind, s, hr, rfl, ht, ho⟩ | ⟨k, hr, rfl, ht⟩ := hgot.lift
        · have h2 := num_ok hr
          have HR2 := Lib.hid hr
          have HO3 := Lib.hid ho
          have HT3 := Lib.hid (HT2.out.trans ht)
          have hblk := block_any HSS.out w3 s mv1 m ho kind (by omega)
          clear hnum hgot hr ht ho
          go_wp2_with fail
          refine hblk.mono ?_
          intro e w4 hgot
          obtain ⟨t, m2, mv2, hr, rfl, ht, ho⟩ | ⟨k, hr, rfl, mv2, ht⟩ := hgot
          · have hadv := adv_block h2.2.2 hr
            have HRR : Hid (rawAt bs N most p made = if last = 0 then rawAt bs N most t m2 else .ok (t, m2)) := by
              show _ = _
              rw [hstep.out, stepR, HR.out]
              simp only []
              rw [HR2.out]
              simp only []
              rw [hr]; rfl
            have HO4 := Lib.hid ho
            have HT4 := Lib.hid (HT3.out.trans ht)
            have HPB4 := Lib.hid (posB_of ho)
            clear hblk hr ht ho
            go_wp2_with fail
            exact ⟨⟨last, t, m2, mv2, rfl, by omega, HO4.out, HT4.out, HRR.out⟩, by rw [HPB4.out, HPB.out]; omega⟩
          · have HRR : Hid (rawAt bs N most p made = .error k) := by
              show _ = _
              rw [hstep.out, stepR, HR.out]
              simp only []
              rw [HR2.out]
              simp only []
              rw [hr]; rfl
            have HT4 := Lib.hid (HT3.out.trans ht)
            clear hblk hr ht
            go_wp2_with fail
            exact ⟨rfl, .inr ⟨k, HRR.out, rfl, mv2, HT4.out⟩⟩
        · have HRR : Hid (rawAt bs N most p made = .error k) := by
            show _ = _
            rw [hstep.out, stepR, HR.out]
            simp only []
            rw [hr]; rfl
          have HT3 := Lib.hid (HT2.out.trans ht)
          clear hnum hgot hr ht
          go_wp2_with fail
          exact ⟨rfl, .inr ⟨k, HRR.out, rfl, mv1, HT3.out⟩⟩
      · have HRR : Hid (rawAt bs N most p made = .error k) := by
          show _ = _
          rw [hstep.out, stepR, hr]; rfl
        have HT2 := Lib.hid (HT1.out.trans ht)
        clear hcall hgot hr ht
        go_wp2_with fail
        exact ⟨rfl, .inr ⟨k, HRR.out, rfl, mv1, HT2.out⟩⟩
    · have hres : Hid (rawAt bs N most p made = .ok (q, m)) := HS1.out.trans (if_neg (by omega))
      clear HS1
      go_wp2_with fail
      go_end0
      exact .inl ⟨q, m, mv1, hres.out, rfl, HT1.out, HO1.out⟩
end Go.Proofs.Ytkminkeaeclanaa
