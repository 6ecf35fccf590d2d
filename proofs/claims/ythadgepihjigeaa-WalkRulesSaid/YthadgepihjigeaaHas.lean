/- The document's small ones: is a number in a list; are all; the same numbers: the walks. -/
import Derived.Test.YthadgepihjigeaaOrder
namespace Go.Proofs.Ythadgepihjigeaa
open Go.RowKit Plain
set_option linter.unusedVariables false
theorem ints_own {w : World} {base n c : Nat} {a : Option Addr} {xs : List Int} (h : w.ownsRow base 3 1 (.slice a n c) n (I64 xs)) : IntsAt w a xs := by
  have hl : xs.length = n := by have := h.1; rw [I64_len] at this; omega
  by_cases h0 : n = 0
  · exact .inl (by omega)
  · obtain ⟨g, cap, hf, -, -⟩ := h.form (by omega)
    simp only [Value.slice.injEq, true_and] at hf
    obtain ⟨rfl, rfl⟩ := hf
    refine .inr ⟨g, 0, rfl, fun j hj => ?_⟩
    rw [Nat.zero_add, h.cellAt j (by omega)]
    exact I64_at xs j hj
theorem ints_len {w : World} {base n : Nat} {v : Value} {xs : List Int} (h : w.ownsRow base 3 1 v n (I64 xs)) : xs.length = n := by have := h.1; rw [I64_len] at this; omega
theorem grown_below (w : World) (n : Nat) : Below w.heap.size w (w.drewN n) := ⟨rfl, rfl, rfl, Nat.le_refl _, fun _ _ => rfl⟩
def hasN (xs : List Int) (p : Int) : Bool := xs.any (· == p)
theorem hasN_iff (xs : List Int) (p : Int) : hasN xs p = true ↔ p ∈ xs := by
  unfold hasN
  rw [List.any_eq_true]
  constructor
  · rintro ⟨x, hx, h⟩
    have : x = p := by simpa using h
    subst this
    exact hx
  · intro h
    exact ⟨p, h, by simp⟩
theorem any_take_succ {α : Type} (f : α → Bool) (l : List α) (k : Nat) (x : α) (h : l[k]? = some x) : (l.take (k + 1)).any f = ((l.take k).any f || f x) := by
  rw [List.take_add_one, h, List.any_append]
  simp
theorem any_yes {α : Type} (f : α → Bool) (l : List α) (k : Nat) (x : α) (h : l[k]? = some x) (hf : f x = true) : l.any f = true := List.any_eq_true.2 ⟨x, List.mem_of_getElem? h, hf⟩
theorem at_some {xs : List Int} {j : Nat} (hj : j < xs.length) : xs[j]? = some (at0 xs j) := by
  unfold at0
  rw [List.getElem?_eq_getElem hj]
  rfl
set_option maxRecDepth 100000 in
set_option maxHeartbeats 4000000 in
theorem has_any (a : Option Addr) (n c : Nat) (xs : List Int) (p : Int) (w : World) (h : IntsAt w a xs) (hl : xs.length = n) (hn : n ≤ 100000000) :
    Calls Try.prog 24 #[.slice a n c, .int .i64 p] w fun e w' => e = .returned (.bool (hasN xs p)) ∧ w' = w := by
  have HI := Lib.hid h
  have HL := Lib.hid hl
  clear h hl
  go_enter Try.func24, Try.ntmps24
  go_wp2_with fail
  go_loop [5] (fun v => ∃ k : Nat, k ≤ n ∧ v = .int .i64 (k : Int) ∧ (xs.take k).any (· == p) = false) (fun v => n - (intOf v).toNat)
  case atStart => exact ⟨0, by omega, rfl, rfl⟩
  case round =>
    obtain ⟨k, hk, rfl, hr⟩ := hrel
    have HR := Lib.hid hr
    clear hr
    by_cases hkn : k = n
    · subst hkn
      have HE : Hid (hasN xs p = false) := by
        have := HR.out
        rw [List.take_of_length_le (by rw [HL.out]; exact Nat.le_refl _)] at this
        exact this
      go_wp2_with fail
      go_ret
      rw [HE.out]
      exact ⟨rfl, rfl⟩
    · have hkl : k < n := by omega
      have hki : (k : Int) < (n : Int) := by omega
      obtain ⟨b, off, rfl, hc⟩ := ints_at HI.out (j := k) (by rw [HL.out]; exact hkl)
      have HA := Lib.hid (at_some (xs := xs) (j := k) (by rw [HL.out]; exact hkl))
      have wk := next_int k (by omega)
      generalize at0 xs k = q at *
      by_cases hq : q = p
      · subst hq
        have HE : Hid (hasN xs q = true) := any_yes _ _ _ _ HA.out (by simp)
        go_wp2_with fail
        go_ret
        rw [HE.out]
        exact ⟨rfl, rfl⟩
      · have hqb : (q == p) = false := beq_eq_false_iff_ne.2 hq
        have HN : Hid ((xs.take (k + 1)).any (· == p) = false) := by
          show _ = _
          rw [any_take_succ _ _ _ _ HA.out, HR.out, hqb]
          rfl
        go_wp2_with fail
        exact ⟨⟨k + 1, by omega, by first | rfl | exact congrArg (Value.int .i64) (wk _ rfl), HN.out⟩, by simp [intOf]; omega⟩
def allN (some_ l : List Int) : Bool := some_.all (hasN l)
set_option maxRecDepth 100000 in
set_option maxHeartbeats 4000000 in
theorem allIn_any (a : Option Addr) (n c : Nat) (xs : List Int) (a2 : Option Addr) (n2 c2 : Nat) (ys : List Int) (w : World) (h : IntsAt w a xs) (hl : xs.length = n) (hn : n ≤ 100000000) (h2 : IntsAt w a2 ys) (hl2 : ys.length = n2) (hn2 : n2 ≤ 100000000) :
    Calls Try.prog 25 #[.slice a n c, .slice a2 n2 c2] w fun e w' => e = .returned (.bool (allN xs ys)) ∧ w' = w := by
  have HI := Lib.hid h
  have HL := Lib.hid hl
  have HH := Lib.hid (fun p => has_any a2 n2 c2 ys p w h2 hl2 hn2)
  clear h hl h2 hl2
  go_enter Try.func25, Try.ntmps25
  go_wp2_with fail
  go_loop [5] (fun v => ∃ k : Nat, k ≤ n ∧ v = .int .i64 (k : Int) ∧ (xs.take k).all (hasN ys) = true) (fun v => n - (intOf v).toNat)
  case atStart => exact ⟨0, by omega, rfl, rfl⟩
  case round =>
    obtain ⟨k, hk, rfl, hr⟩ := hrel
    have HR := Lib.hid hr
    clear hr
    by_cases hkn : k = n
    · subst hkn
      have HE : Hid (allN xs ys = true) := by
        have := HR.out
        rw [List.take_of_length_le (by rw [HL.out]; exact Nat.le_refl _)] at this
        exact this
      go_wp2_with fail
      go_ret
      rw [HE.out]
      exact ⟨rfl, rfl⟩
    · have hkl : k < n := by omega
      have hki : (k : Int) < (n : Int) := by omega
      obtain ⟨b, off, rfl, hc⟩ := ints_at HI.out (j := k) (by rw [HL.out]; exact hkl)
      have HA := Lib.hid (at_some (xs := xs) (j := k) (by rw [HL.out]; exact hkl))
      have wk := next_int k (by omega)
      generalize at0 xs k = q at *
      go_wp2_with fail
      refine (HH.out q).mono ?_
      rintro e w' ⟨rfl, hw⟩
      have hw2 := hw.symm
      subst hw2
      clear hw
      cases hq : hasN ys q with
      | true =>
        have HN : Hid ((xs.take (k + 1)).all (hasN ys) = true) := by
          show _ = _
          rw [all_take_succ _ _ _ _ HA.out, HR.out, hq]
          rfl
        clear hq
        go_wp2_with fail
        exact ⟨⟨k + 1, by omega, by first | rfl | exact congrArg (Value.int .i64) (wk _ rfl), HN.out⟩, by simp [intOf]; omega⟩
      | false =>
        have HE : Hid (allN xs ys = false) := all_no _ _ _ _ HA.out hq
        clear hq
        go_wp2_with fail
        go_ret
        rw [HE.out]
        exact ⟨rfl, rfl⟩
theorem take_eq_succ {xs ys : List Int} {k : Nat} {x y : Int} (h : xs.take k = ys.take k) (hx : xs[k]? = some x) (hy : ys[k]? = some y) : (xs.take (k + 1) = ys.take (k + 1)) ↔ x = y := by
  rw [List.take_add_one, List.take_add_one, hx, hy, h]
  simp
set_option maxRecDepth 100000 in
set_option maxHeartbeats 4000000 in
theorem same_any (a : Option Addr) (n c : Nat) (xs : List Int) (a2 : Option Addr) (n2 c2 : Nat) (ys : List Int) (w : World) (h : IntsAt w a xs) (hl : xs.length = n) (hn : n ≤ 100000000) (h2 : IntsAt w a2 ys) (hl2 : ys.length = n2) (hn2 : n2 ≤ 100000000) :
    Calls Try.prog 13 #[.slice a n c, .slice a2 n2 c2] w fun e w' => e = .returned (.bool (decide (xs = ys))) ∧ Below w.heap.size w w' := by
  by_cases hnn : n = n2
  · subst hnn
    have HI := Lib.hid h
    have HL := Lib.hid hl
    have HI2 := Lib.hid h2
    have HL2 := Lib.hid hl2
    clear h hl h2 hl2
    go_enter Try.func13, Try.ntmps13
    go_wp2_with fail
    go_loopw [5] (fun v wr => ∃ k : Nat, k ≤ n ∧ v = .int .i64 (k : Int) ∧ xs.take k = ys.take k ∧ Below w.heap.size w wr) (fun v _ => n - (intOf v).toNat)
    case atStart => exact ⟨0, by omega, rfl, rfl, Below.refl _ _⟩
    case round =>
      obtain ⟨k, hk, rfl, hr, hb⟩ := hrel
      have HR := Lib.hid hr
      have HB := Lib.hid hb
      clear hr hb
      by_cases hkn : k = n
      · subst hkn
        have HE : Hid (decide (xs = ys) = true) := by
          have := HR.out
          rw [List.take_of_length_le (by rw [HL.out]; exact Nat.le_refl _), List.take_of_length_le (by rw [HL2.out]; exact Nat.le_refl _)] at this
          exact decide_eq_true this
        go_wp2_with fail
        go_ret
        rw [HE.out]
        exact ⟨rfl, HB.out⟩
      · have hkl : k < n := by omega
        have hki : (k : Int) < (n : Int) := by omega
        obtain ⟨b, off, rfl, hc0⟩ := ints_at HI.out (j := k) (by rw [HL.out]; exact hkl)
        obtain ⟨b2, off2, rfl, hc20⟩ := ints_at HI2.out (j := k) (by rw [HL2.out]; exact hkl)
        have hc := (HB.out.cell (p := ⟨b, off + k, none⟩) (cell_lt hc0)).trans hc0
        have hc2 := (HB.out.cell (p := ⟨b2, off2 + k, none⟩) (cell_lt hc20)).trans hc20
        have HA := Lib.hid (at_some (xs := xs) (j := k) (by rw [HL.out]; exact hkl))
        have HA2 := Lib.hid (at_some (xs := ys) (j := k) (by rw [HL2.out]; exact hkl))
        have wk := next_int k (by omega)
        generalize at0 xs k = q at *
        generalize at0 ys k = r at *
        have HT := Lib.hid (take_eq_succ HR.out HA.out HA2.out)
        clear hc0 hc20
        by_cases hq : q = r
        · subst hq
          have HN : Hid (xs.take (k + 1) = ys.take (k + 1)) := HT.out.2 rfl
          go_wp2_with fail
          go_quiet (fail)
          go_wp2_with fail
          exact ⟨⟨k + 1, by omega, by first | rfl | exact congrArg (Value.int .i64) (wk _ rfl), HN.out, HB.out.trans (Below.mono (grown_below _ _) HB.out.size)⟩, by simp [intOf]; omega⟩
        · have hqb : (q == r) = false := beq_eq_false_iff_ne.2 hq
          have HE : Hid (decide (xs = ys) = false) := decide_eq_false fun e => hq (HT.out.1 (by rw [e]))
          go_wp2_with fail
          go_quiet (fail)
          go_wp2_with fail
          go_ret
          rw [HE.out]
          exact ⟨rfl, HB.out.trans (Below.mono (grown_below _ _) HB.out.size)⟩
  · have HE : Hid (decide (xs = ys) = false) := decide_eq_false fun e => hnn (by rw [← hl, ← hl2, e])
    have e1 : ¬ (n : Int) = (n2 : Int) := by omega
    have e2 : ((n : Int) == (n2 : Int)) = false := beq_eq_false_iff_ne.2 e1
    clear h hl h2 hl2
    go_enter Try.func13, Try.ntmps13
    go_wp2_with fail
    go_ret
    rw [HE.out]
    exact ⟨rfl, Below.refl _ _⟩
end Go.Proofs.Ythadgepihjigeaa
