/- How many bytes are alike: the walk. -/
import Derived.Test.YtkpnmagcmpljoaaBack
namespace Go.Proofs.Ytkpnmagcmpljoaa
open Go.RowKit
set_option linter.unusedVariables false
theorem take_succ0 (xs : List Int) (k : Nat) (h : k < xs.length) : xs.take (k + 1) = xs.take k ++ [xs[k]?.getD 0] := by
  rw [List.take_succ_eq_append_getElem h, List.getElem?_eq_getElem h]; rfl
set_option maxRecDepth 100000 in
set_option maxHeartbeats 8000000 in
theorem alike_any (a1 : Option Addr) (m1 c1 : Nat) (B1 : List Int) (hm1 : m1 ≤ 1000000000) (a2 : Option Addr) (m2 c2 : Nat) (B2 : List Int) (hm2 : m2 ≤ 1000000000) (w : World) (H1 : Bytes w a1 m1 B1) (H2 : Bytes w a2 m2 B2) :
    Calls Try.prog 24 #[.slice a1 m1 c1, .slice a2 m2 c2] w fun e w' => (∃ j : Nat, e = .returned (.int .i64 (j : Int)) ∧ j ≤ m1 ∧ j ≤ m2 ∧ B1.take j = B2.take j ∧ (j = m1 ∨ j = m2 ∨ (fun k => B1[k]?.getD 0 ≠ B2[k]?.getD 0) j)) ∧ Below w.heap.size w w' := by
  have hl1 : B1.length = m1 := H1.1
  have hl2 : B2.length = m2 := H2.1
  have HY1 := Lib.hid H1
  have HY2 := Lib.hid H2
  have HL1 := Lib.hid hl1
  have HL2 := Lib.hid hl2
  clear H1 H2 hl1 hl2
  go_enter Try.func24, Try.ntmps24
  go_wp2_with fail
  go_loopw [5] (fun v wr => ∃ j : Nat, v = .int .i64 (j : Int) ∧ j ≤ m1 ∧ j ≤ m2 ∧ B1.take j = B2.take j ∧ Below w.heap.size w wr) (fun v _ => m1 - (intOf v).toNat)
  case atStart => exact ⟨0, rfl, Nat.zero_le _, Nat.zero_le _, by rw [List.take_zero, List.take_zero], Below.refl _ _⟩
  case round =>
    obtain ⟨j, rfl, hj1, hj2, hpre, hb⟩ := hrel
    have HPRE := Lib.hid hpre
    have HB := Lib.hid hb
    clear hpre hb
    by_cases h1 : j < m1
    · have h1i : decide ((j : Int) < (m1 : Int)) = true := by simp; omega
      have h1j : (j : Int) < (m1 : Int) := by omega
      by_cases h2 : j < m2
      · have h2i : decide ((j : Int) < (m2 : Int)) = true := by simp; omega
        have h2j : (j : Int) < (m2 : Int) := by omega
        obtain ⟨-, -, hr1, h0 | ⟨b1, o1, ha1, hbc1⟩⟩ := HY1.out.below HB.out
        · omega
        subst ha1
        have q1 := hbc1 j (by omega)
        obtain ⟨-, -, hr2, h0 | ⟨b2, o2, ha2, hbc2⟩⟩ := HY2.out.below HB.out
        · omega
        subst ha2
        have q2 := hbc2 j (by omega)
        have HNX : Hid (B1[j]?.getD 0 = B2[j]?.getD 0 → B1.take (j + 1) = B2.take (j + 1)) := fun he => by
          rw [take_succ0 B1 j (by rw [HL1.out]; omega), take_succ0 B2 j (by rw [HL2.out]; omega), HPRE.out, he]
        obtain ⟨NE, hNE⟩ : ∃ NE : Nat → Prop, NE = fun k => B1[k]?.getD 0 ≠ B2[k]?.getD 0 := ⟨_, rfl⟩
        have HMX : Hid (B1[j]?.getD 0 ≠ B2[j]?.getD 0 → NE j) := fun he => by rw [hNE]; exact he
        have HNE := Lib.hid hNE
        clear hbc1 hbc2 hr1 hr2 hNE
        generalize B1[j]?.getD 0 = x1 at *
        generalize B2[j]?.getD 0 = x2 at *
        by_cases hx : x1 = x2
        · have hxd : (x1 == x2) = true := by simp [hx]
          go_wp2_with fail
          go_quiet (fail)
          have HBz : Hid (Below w.heap.size w (wr.drewN nq)) := ⟨HB.out.1, HB.out.2, HB.out.3, HB.out.4, HB.out.5⟩
          generalize wr.drewN nq = wz at *
          have HNY := Lib.hid (HNX.out hx)
          go_wp2_with fail
          exact ⟨⟨j + 1, by go_num, by omega, by omega, HNY.out, HBz.out⟩, by simp [intOf]; omega⟩
        · have hxd : (x1 == x2) = false := by simp [hx]
          go_wp2_with fail
          go_quiet (fail)
          have HBz : Hid (Below w.heap.size w (wr.drewN nq)) := ⟨HB.out.1, HB.out.2, HB.out.3, HB.out.4, HB.out.5⟩
          generalize wr.drewN nq = wz at *
          go_wp2_with fail
          go_ret
          exact ⟨⟨j, rfl, hj1, hj2, HPRE.out, .inr (.inr (by have := HMX.out hx; rw [HNE.out] at this; exact this))⟩, HBz.out⟩
      · have h2i : decide ((j : Int) < (m2 : Int)) = false := by simp; omega
        go_wp2_with fail
        go_quiet (fail)
        have HBz : Hid (Below w.heap.size w (wr.drewN nq)) := ⟨HB.out.1, HB.out.2, HB.out.3, HB.out.4, HB.out.5⟩
        generalize wr.drewN nq = wz at *
        go_wp2_with fail
        go_ret
        exact ⟨⟨j, rfl, hj1, hj2, HPRE.out, .inr (.inl (by omega))⟩, HBz.out⟩
    · have h1i : decide ((j : Int) < (m1 : Int)) = false := by simp; omega
      go_wp2_with fail
      go_quiet (fail)
      have HBz : Hid (Below w.heap.size w (wr.drewN nq)) := ⟨HB.out.1, HB.out.2, HB.out.3, HB.out.4, HB.out.5⟩
      generalize wr.drewN nq = wz at *
      go_wp2_with fail
      go_ret
      exact ⟨⟨j, rfl, hj1, hj2, HPRE.out, .inl (by omega)⟩, HBz.out⟩
end Go.Proofs.Ytkpnmagcmpljoaa
