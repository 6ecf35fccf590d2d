/- How far two rows are alike: the walks. -/
import Derived.Test.YtbkifjmfmiipnaaMakeMath
namespace Go.Proofs.Ytbkifjmfmiipnaa
open Go.RowKit Plain
set_option linter.unusedVariables false
set_option maxHeartbeats 4000000 in
theorem alike_1 (a b : Nat) (ha : a ≤ 1000000) (hb : b ≤ 1000000) (p0 p1 : Value) (q : Nat → Bool) (w : World)
    (HQ : ∀ j W, j < a → j < b → Below w.heap.size w W → Calls Try.prog 20 #[.int .i64 (j : Int), p0, p1] W fun e w' => e = .returned (.bool (q j)) ∧ Below w.heap.size w w') :
    Calls Try.prog 19 #[.int .i64 (a : Int), .int .i64 (b : Int), .func (.func 20) #[] #[p0, p1]] w fun e w' => e = .returned (.int .i64 (alikeN a b q : Int)) ∧ Below w.heap.size w w' := by
  have HH : Hid (∀ j W, j < a → j < b → Below w.heap.size w W → Calls Try.prog 20 #[.int .i64 (j : Int), p0, p1] W fun e w' => e = .returned (.bool (q j)) ∧ Below w.heap.size w w') := HQ
  clear HQ
  go_enter Try.func19, Try.ntmps19
  go_wp2_with fail
  go_loopw [7] (fun i wr => ∃ k : Nat, k ≤ a ∧ k ≤ b ∧ i = .int .i64 (k : Int) ∧ alikeN a b q = runQ q (min a b - k) k ∧ Below w.heap.size w wr) (fun i _ => a - (intOf i).toNat)
  case atStart => exact ⟨0, by omega, by omega, rfl, rfl, Below.refl _ _⟩
  case round =>
    obtain ⟨k, hka, hkb, rfl, hq, hbel⟩ := hrel
    have HA : Hid (alikeN a b q = runQ q (min a b - k) k) := hq
    have HB : Hid (Below w.heap.size w wr) := hbel
    clear hq hbel
    by_cases h1 : k < a
    · by_cases h2 : k < b
      · have i1 : (k : Int) < a := by omega
        have i2 : (k : Int) < b := by omega
        have hcall := HH.out k wr h1 h2 HB.out
        have HN : Hid (alikeN a b q = if q k then runQ q (min a b - (k + 1)) (k + 1) else k) := by
          show _ = _
          rw [HA.out, show min a b - k = (min a b - (k + 1)) + 1 by omega, runQ]
        cases hc : q k
        · rw [hc] at hcall HN
          have HN' : Hid (alikeN a b q = k) := HN.out
          go_wp2_with fail
          refine hcall.mono ?_
          rintro e w2 ⟨rfl, hb2⟩
          have HB2 : Hid (Below w.heap.size w w2) := hb2
          clear hb2 hcall
          go_wp2_with fail
          go_ret
          rw [HN'.out]
          exact ⟨rfl, HB2.out⟩
        · rw [hc] at hcall HN
          have HN' : Hid (alikeN a b q = runQ q (min a b - (k + 1)) (k + 1)) := HN.out
          go_wp2_with fail
          refine hcall.mono ?_
          rintro e w2 ⟨rfl, hb2⟩
          have HB2 : Hid (Below w.heap.size w w2) := hb2
          clear hb2 hcall
          go_wp2_with fail
          exact ⟨⟨k + 1, by omega, by omega, by go_num, HN'.out, HB2.out⟩, by simp [intOf]; omega⟩
      · have i1 : (k : Int) < a := by omega
        have i2 : ¬ (k : Int) < b := by omega
        have HN' : Hid (alikeN a b q = k) := by
          show _ = _
          rw [HA.out, show min a b - k = 0 by omega]; rfl
        go_wp2_with fail
        go_ret
        rw [HN'.out]
        exact ⟨rfl, HB.out⟩
    · have i1 : ¬ (k : Int) < a := by omega
      have HN' : Hid (alikeN a b q = k) := by
        show _ = _
        rw [HA.out, show min a b - k = 0 by omega]; rfl
      go_wp2_with fail
      go_ret
      rw [HN'.out]
      exact ⟨rfl, HB.out⟩
set_option maxHeartbeats 4000000 in
theorem alike_2 (a b : Nat) (ha : a ≤ 1000000) (hb : b ≤ 1000000) (p0 p1 : Value) (q : Nat → Bool) (w : World)
    (HQ : ∀ j W, j < a → j < b → Below w.heap.size w W → Calls Try.prog 21 #[.int .i64 (j : Int), p0, p1] W fun e w' => e = .returned (.bool (q j)) ∧ Below w.heap.size w w') :
    Calls Try.prog 19 #[.int .i64 (a : Int), .int .i64 (b : Int), .func (.func 21) #[] #[p0, p1]] w fun e w' => e = .returned (.int .i64 (alikeN a b q : Int)) ∧ Below w.heap.size w w' := by
  have HH : Hid (∀ j W, j < a → j < b → Below w.heap.size w W → Calls Try.prog 21 #[.int .i64 (j : Int), p0, p1] W fun e w' => e = .returned (.bool (q j)) ∧ Below w.heap.size w w') := HQ
  clear HQ
  go_enter Try.func19, Try.ntmps19
  go_wp2_with fail
  go_loopw [7] (fun i wr => ∃ k : Nat, k ≤ a ∧ k ≤ b ∧ i = .int .i64 (k : Int) ∧ alikeN a b q = runQ q (min a b - k) k ∧ Below w.heap.size w wr) (fun i _ => a - (intOf i).toNat)
  case atStart => exact ⟨0, by omega, by omega, rfl, rfl, Below.refl _ _⟩
  case round =>
    obtain ⟨k, hka, hkb, rfl, hq, hbel⟩ := hrel
    have HA : Hid (alikeN a b q = runQ q (min a b - k) k) := hq
    have HB : Hid (Below w.heap.size w wr) := hbel
    clear hq hbel
    by_cases h1 : k < a
    · by_cases h2 : k < b
      · have i1 : (k : Int) < a := by omega
        have i2 : (k : Int) < b := by omega
        have hcall := HH.out k wr h1 h2 HB.out
        have HN : Hid (alikeN a b q = if q k then runQ q (min a b - (k + 1)) (k + 1) else k) := by
          show _ = _
          rw [HA.out, show min a b - k = (min a b - (k + 1)) + 1 by omega, runQ]
        cases hc : q k
        · rw [hc] at hcall HN
          have HN' : Hid (alikeN a b q = k) := HN.out
          go_wp2_with fail
          refine hcall.mono ?_
          rintro e w2 ⟨rfl, hb2⟩
          have HB2 : Hid (Below w.heap.size w w2) := hb2
          clear hb2 hcall
          go_wp2_with fail
          go_ret
          rw [HN'.out]
          exact ⟨rfl, HB2.out⟩
        · rw [hc] at hcall HN
          have HN' : Hid (alikeN a b q = runQ q (min a b - (k + 1)) (k + 1)) := HN.out
          go_wp2_with fail
          refine hcall.mono ?_
          rintro e w2 ⟨rfl, hb2⟩
          have HB2 : Hid (Below w.heap.size w w2) := hb2
          clear hb2 hcall
          go_wp2_with fail
          exact ⟨⟨k + 1, by omega, by omega, by go_num, HN'.out, HB2.out⟩, by simp [intOf]; omega⟩
      · have i1 : (k : Int) < a := by omega
        have i2 : ¬ (k : Int) < b := by omega
        have HN' : Hid (alikeN a b q = k) := by
          show _ = _
          rw [HA.out, show min a b - k = 0 by omega]; rfl
        go_wp2_with fail
        go_ret
        rw [HN'.out]
        exact ⟨rfl, HB.out⟩
    · have i1 : ¬ (k : Int) < a := by omega
      have HN' : Hid (alikeN a b q = k) := by
        show _ = _
        rw [HA.out, show min a b - k = 0 by omega]; rfl
      go_wp2_with fail
      go_ret
      rw [HN'.out]
      exact ⟨rfl, HB.out⟩
theorem eqF_val (xs ys : List Int) (j : Nat) (h0 : j < xs.length) (h1 : j < ys.length) : eqF xs ys j = decide (xs[j]?.getD 0 = ys[j]?.getD 0) := by
  unfold eqF
  rw [List.getElem?_eq_getElem h0, List.getElem?_eq_getElem h1]
  simp
theorem eqB_val (xs ys : List Int) (j : Nat) (h0 : j < xs.length) (h1 : j < ys.length) : eqB xs ys j = decide (xs[xs.length - 1 - j]?.getD 0 = ys[ys.length - 1 - j]?.getD 0) := by
  unfold eqB
  rw [List.getElem?_eq_getElem (by omega), List.getElem?_eq_getElem (by omega)]
  simp
theorem Bytes.cellAt {w : World} {a : Option Addr} {m : Nat} {xs : List Int} (h : Bytes w a m xs) (h0 : 0 < m) : ∃ b o, a = some ⟨b, o, none⟩ ∧ ∀ j, j < m → w.cell? ⟨b, o + j, none⟩ = some (.int .u8 (xs[j]?.getD 0)) := by
  obtain ⟨-, -, -, h4 | ⟨b, off, ha, hc⟩⟩ := h
  · omega
  · exact ⟨b, off, ha, hc⟩
set_option maxHeartbeats 4000000 in
theorem front_any (B0 B1 : Nat) (a0 : Option Addr) (m0 c0 : Nat) (xs : List Int) (a1 : Option Addr) (m1 c1 : Nat) (ys : List Int) (j : Nat) (w : World) (K0 : w.cell? ⟨B0, 0, none⟩ = some (.slice a0 m0 c0)) (K1 : w.cell? ⟨B1, 0, none⟩ = some (.slice a1 m1 c1))
    (l0 : m0 ≤ c0) (l1 : m1 ≤ c1) (h0 : j < m0) (h1 : j < m1) (s0 : m0 ≤ 1000000) (s1 : m1 ≤ 1000000) (H0 : Bytes w a0 m0 xs) (H1 : Bytes w a1 m1 ys) :
    Calls Try.prog 20 #[.int .i64 (j : Int), .pointer (some ⟨B0, 0, none⟩), .pointer (some ⟨B1, 0, none⟩)] w fun e w' => e = .returned (.bool (eqF xs ys j)) ∧ w' = w.drew := by
  have HE : Hid (eqF xs ys j = decide (xs[j]?.getD 0 = ys[j]?.getD 0)) := eqF_val xs ys j (by rw [H0.1]; exact h0) (by rw [H1.1]; exact h1)
  obtain ⟨b, o, rfl, hc0⟩ := H0.cellAt (by omega)
  obtain ⟨b', o', rfl, hc1⟩ := H1.cellAt (by omega)
  have d0 := hc0 j h0
  have d1 := hc1 j h1
  have i0 : (j : Int) < m0 := by omega
  have i1 : (j : Int) < m1 := by omega
  have i2 : (0 : Int) ≤ j := by omega
  clear hc0 hc1 H0 H1
  generalize xs[j]?.getD 0 = x at *
  generalize ys[j]?.getD 0 = y at *
  go_enter Try.func20, Try.ntmps20
  go_wp2_with fail
  apply wp_one
  · go_region_held3 (fun W => W.cell? ⟨B0, 0, none⟩ = some (.slice (some ⟨b, o, none⟩) m0 c0) ∧ W.cell? ⟨B1, 0, none⟩ = some (.slice (some ⟨b', o', none⟩) m1 c1) ∧ W.cell? ⟨b, o + j, none⟩ = some (.int .u8 x) ∧ W.cell? ⟨b', o' + j, none⟩ = some (.int .u8 y))
        (first | go_keep | (exact ⟨K0, K1, d0, d1⟩) | assumption) (fail)
    all_goals exact ⟨rfl, rfl, rfl⟩
  go_wp2_with fail
  go_ret
  rw [HE.out]
  exact ⟨by simp; rfl, rfl⟩
set_option maxHeartbeats 4000000 in
theorem back_any (B0 B1 : Nat) (a0 : Option Addr) (m0 c0 : Nat) (xs : List Int) (a1 : Option Addr) (m1 c1 : Nat) (ys : List Int) (j : Nat) (w : World) (K0 : w.cell? ⟨B0, 0, none⟩ = some (.slice a0 m0 c0)) (K1 : w.cell? ⟨B1, 0, none⟩ = some (.slice a1 m1 c1))
    (l0 : m0 ≤ c0) (l1 : m1 ≤ c1) (h0 : j < m0) (h1 : j < m1) (s0 : m0 ≤ 1000000) (s1 : m1 ≤ 1000000) (H0 : Bytes w a0 m0 xs) (H1 : Bytes w a1 m1 ys) :
    Calls Try.prog 21 #[.int .i64 (j : Int), .pointer (some ⟨B0, 0, none⟩), .pointer (some ⟨B1, 0, none⟩)] w fun e w' => e = .returned (.bool (eqB xs ys j)) ∧ w' = w.drew := by
  have HE : Hid (eqB xs ys j = decide (xs[m0 - 1 - j]?.getD 0 = ys[m1 - 1 - j]?.getD 0)) := by
    have := eqB_val xs ys j (by rw [H0.1]; exact h0) (by rw [H1.1]; exact h1)
    rw [H0.1, H1.1] at this
    exact this
  obtain ⟨b, o, rfl, hc0⟩ := H0.cellAt (by omega)
  obtain ⟨b', o', rfl, hc1⟩ := H1.cellAt (by omega)
  have d0 := hc0 (m0 - 1 - j) (by omega)
  have d1 := hc1 (m1 - 1 - j) (by omega)
  obtain ⟨r0, hr0⟩ : ∃ r, m0 - 1 - j = r := ⟨_, rfl⟩
  obtain ⟨r1, hr1⟩ : ∃ r, m1 - 1 - j = r := ⟨_, rfl⟩
  rw [hr0, hr1] at HE
  rw [hr0] at d0
  rw [hr1] at d1
  have i0 : (r0 : Int) < m0 := by omega
  have i1 : (r1 : Int) < m1 := by omega
  have i2 : (0 : Int) ≤ r0 := by omega
  have i3 : (0 : Int) ≤ r1 := by omega
  have w0 : IntKind.i64.wrap ((m0 : Int) - 1) = (m0 : Int) - 1 := by rw [IntKind.wrap_i64]; omega
  have w1 : IntKind.i64.wrap ((m1 : Int) - 1) = (m1 : Int) - 1 := by rw [IntKind.wrap_i64]; omega
  have w2 : IntKind.i64.wrap ((m0 : Int) - 1 - j) = (r0 : Int) := by rw [IntKind.wrap_i64]; omega
  have w3 : IntKind.i64.wrap ((m1 : Int) - 1 - j) = (r1 : Int) := by rw [IntKind.wrap_i64]; omega
  clear hc0 hc1 H0 H1 hr0 hr1
  generalize xs[r0]?.getD 0 = x at *
  generalize ys[r1]?.getD 0 = y at *
  go_enter Try.func21, Try.ntmps21
  go_wp2_with fail
  apply wp_one
  · go_region_held3 (fun W => W.cell? ⟨B0, 0, none⟩ = some (.slice (some ⟨b, o, none⟩) m0 c0) ∧ W.cell? ⟨B1, 0, none⟩ = some (.slice (some ⟨b', o', none⟩) m1 c1) ∧ W.cell? ⟨b, o + r0, none⟩ = some (.int .u8 x) ∧ W.cell? ⟨b', o' + r1, none⟩ = some (.int .u8 y))
        (first | go_keep | (exact ⟨K0, K1, d0, d1⟩) | assumption) (fail)
    all_goals exact ⟨rfl, rfl, rfl⟩
  go_wp2_with fail
  go_ret
  rw [HE.out]
  exact ⟨by simp; rfl, rfl⟩
end Go.Proofs.Ytbkifjmfmiipnaa
