/- The document's unpacking: one bit, a number. -/
import Derived.Test.YtkminkeaeclanaaRawLast
namespace Go.Proofs.Ytkminkeaeclanaa
open Go.RowKit Plain
set_option linter.unusedVariables false
/-- The document's stream in block Sb. -/
def RS (w : World) (Sb : Nat) (ba : Option Addr) (bn bc at_ : Nat) (ov : Value) (M : Int) (bad : Nat) : Prop :=
  w.heap[Sb]? = some (.cells #[.slice ba bn bc, .int .i64 (at_ : Int), ov, .int .i64 M, .int .i64 (bad : Int)] 48 (0, 0))
/-- The bytes that it reads, apart from its own block. -/
def SrcR (w : World) (Sb : Nat) (ba : Option Addr) (bn bc : Nat) (bs : List Int) : Prop := Bytes w ba bn bs ∧ bn ≤ 1000000000 ∧ ∀ b off, ba = some ⟨b, off, none⟩ → bn = 0 ∨ b ≠ Sb
theorem Bytes.only {w w' : World} {Sb : Nat} {a : Option Addr} {n : Nat} {xs : List Int} (h : Bytes w a n xs) (hne : ∀ b off, a = some ⟨b, off, none⟩ → n = 0 ∨ b ≠ Sb) (ho : OnlyAt Sb w w') : Bytes w' a n xs := by
  obtain ⟨h1, h2, h3, h4 | ⟨b, off, rfl, hc⟩⟩ := h
  · exact ⟨h1, h2, h3, .inl h4⟩
  · rcases hne b off rfl with h0 | hne
    · exact ⟨h1, h2, h3, .inl h0⟩
    refine ⟨h1, h2, h3, .inr ⟨b, off, rfl, fun j hj => ?_⟩⟩
    rw [← hc j hj]
    exact World.cell?_of_block (w := w) (w' := w') (a := ⟨b, off + j, none⟩) (ho.block b hne)
theorem SrcR.only {w w' : World} {Sb : Nat} {ba : Option Addr} {bn bc : Nat} {bs : List Int} (h : SrcR w Sb ba bn bc bs) (ho : OnlyAt Sb w w') : SrcR w' Sb ba bn bc bs := ⟨h.1.only h.2.2 ho, h.2.1, h.2.2⟩
theorem rs_cells {w : World} {Sb : Nat} {ba : Option Addr} {bn bc at_ : Nat} {ov : Value} {M : Int} {bad : Nat} (h : RS w Sb ba bn bc at_ ov M bad) :
    w.cell? ⟨Sb, 0, none⟩ = some (.slice ba bn bc) ∧ w.cell? ⟨Sb, 1, none⟩ = some (.int .i64 (at_ : Int)) ∧ w.cell? ⟨Sb, 2, none⟩ = some ov ∧ w.cell? ⟨Sb, 3, none⟩ = some (.int .i64 M) ∧ w.cell? ⟨Sb, 4, none⟩ = some (.int .i64 (bad : Int)) :=
  ⟨cell_row0 w Sb 0 _ _ _ h, cell_row0 w Sb 1 _ _ _ h, cell_row0 w Sb 2 _ _ _ h, cell_row0 w Sb 3 _ _ _ h, cell_row0 w Sb 4 _ _ _ h⟩
theorem rs_free {w : World} {Sb : Nat} {ba : Option Addr} {bn bc at_ : Nat} {ov : Value} {M : Int} {bad : Nat} (h : RS w Sb ba bn bc at_ ov M bad) (k : Nat) : w.frozen? ⟨Sb, k, none⟩ = false := free_row0 w Sb k _ _ h
theorem RS.bad {w : World} {Sb : Nat} {ba : Option Addr} {bn bc at_ : Nat} {ov : Value} {M : Int} {bad : Nat} (h : RS w Sb ba bn bc at_ ov M bad) (k : Nat) : RS (w.setCell ⟨Sb, 4, none⟩ (.int .i64 (k : Int))) Sb ba bn bc at_ ov M k :=
  heap_setCell_same w Sb 4 _ _ _ h
theorem RS.to {w : World} {Sb : Nat} {ba : Option Addr} {bn bc at_ : Nat} {ov : Value} {M : Int} {bad : Nat} (h : RS w Sb ba bn bc at_ ov M bad) (k : Nat) : RS (w.setCell ⟨Sb, 1, none⟩ (.int .i64 (k : Int))) Sb ba bn bc k ov M bad :=
  heap_setCell_same w Sb 1 _ _ _ h
theorem stop_any (w : World) (Sb : Nat) (ba : Option Addr) (bn bc at_ : Nat) (ov : Value) (M : Int) (bad k : Nat) (h : RS w Sb ba bn bc at_ ov M bad) :
    Calls Try.prog 21 #[.pointer (some ⟨Sb, 0, none⟩), .int .i64 (k : Int)] w fun e w' => e = .returned (.tuple #[]) ∧ RS w' Sb ba bn bc at_ ov M (if bad = 0 then k else bad) ∧ OnlyAt Sb w w' := by
  have HR := Lib.hid h
  obtain ⟨-, -, -, -, c4⟩ := rs_cells h
  have f4 := rs_free h 4
  clear h
  by_cases hb : bad = 0
  · subst hb
    rw [if_pos rfl]
    go_enter Try.func21, Try.ntmps21
    go_wp2_with fail
    go_end0
    exact ⟨rfl, HR.out.bad k, (OnlyAt.refl _ _).set _ _⟩
  · rw [if_neg hb]
    have hbi : ((bad : Int) == 0) = false := by simp; omega
    have hbj : ¬ ((bad : Int) = 0) := by omega
    go_enter Try.func21, Try.ntmps21
    go_wp2_with fail
    go_end0
    exact ⟨rfl, HR.out, OnlyAt.refl _ _⟩
/-- What a bit is. -/
theorem bit_of {bs : List Int} (hb : ∀ x ∈ bs, 0 ≤ x ∧ x ≤ 255) (p : Nat) : (bs[p / 8]?.getD 0).toNat / 2 ^ (p % 8) % 2 = streamN bs / 2 ^ p % 2 := by
  have h1 := stream_at bs hb (p / 8)
  have h2 : streamN bs / 2 ^ p % 2 ^ 1 = streamN bs / 2 ^ (8 * (p / 8)) % 2 ^ 8 / 2 ^ (p % 8) % 2 ^ 1 := by
    rw [bits_div _ _ _ _ (by omega), show 8 * (p / 8) + p % 8 = p by omega, bits_mod _ _ _ _ (by omega)]
  rw [show (2 : Nat) ^ 8 = 256 from rfl, h1] at h2
  exact h2.symm
set_option maxRecDepth 100000 in
set_option maxHeartbeats 8000000 in
theorem bit_good (w : World) (Sb : Nat) (ba : Option Addr) (bn bc p : Nat) (ov : Value) (M : Int) (bs : List Int) (h : RS w Sb ba bn bc p ov M 0) (HS : SrcR w Sb ba bn bc bs) (hp : p < 8 * bn) :
    Calls Try.prog 19 #[.pointer (some ⟨Sb, 0, none⟩)] w fun e w' => e = .returned (.int .i64 ((streamN bs / 2 ^ p % 2 : Nat) : Int)) ∧ RS w' Sb ba bn bc (p + 1) ov M 0 ∧ OnlyAt Sb w w' := by
  have HR := Lib.hid h
  have HSS := Lib.hid HS
  obtain ⟨c0, c1, -, -, c4⟩ := rs_cells h
  have f1 := rs_free h 1
  have hbn := HS.2.1
  have hmem : ∀ x ∈ bs, 0 ≤ x ∧ x ≤ 255 := mem_of_getD HS.1.2.2.1
  have hbit := bit_of hmem p
  obtain ⟨b, off, rfl, hc⟩ : ∃ b off, ba = some ⟨b, off, none⟩ ∧ ∀ j, j < bn → w.cell? ⟨b, off + j, none⟩ = some (.int .u8 (bs[j]?.getD 0)) := by
    rcases HS.1.2.2.2 with h | ⟨b, off, h⟩
    · omega
    · exact ⟨b, off, h⟩
  obtain ⟨i, hi⟩ : ∃ i, p / 8 = i := ⟨_, rfl⟩
  obtain ⟨r, hr⟩ : ∃ r, p % 8 = r := ⟨_, rfl⟩
  have hin : i < bn := by omega
  have q1 := hc i hin
  have hx := HS.1.2.2.1 i
  rw [hi, hr] at hbit
  obtain ⟨x, ex⟩ : ∃ x : Nat, bs[i]?.getD 0 = (x : Int) := Int.eq_ofNat_of_zero_le hx.1
  rw [ex] at q1 hbit
  rw [Int.toNat_natCast] at hbit
  rw [← hbit]
  have hx5 : x ≤ 255 := by rw [ex] at hx; omega
  have hi1 : (p : Int) / 8 = (i : Int) := by omega
  have hr1 : (p : Int) % 8 = (r : Int) := by omega
  have hini : (i : Int) < (bn : Int) := by omega
  have hr8 : r < 8 := by omega
  have hge : ¬ 8 * (bn : Int) ≤ (p : Int) := by omega
  have hp1 : p ≤ 8000000000 := by omega
  clear h HS hc hbit hmem hx ex hi hr
  go_enter Try.func19, Try.ntmps19
  go_wp2_with fail
  go_quiet (fail)
  have HR1 : Hid (RS (w.drewN nq) Sb (some ⟨b, off, none⟩) bn bc p ov M 0) := HR.out
  have HO1 : Hid (OnlyAt Sb w (w.drewN nq)) := (OnlyAt.refl Sb w).drewN nq
  have q1' : (w.drewN nq).cell? ⟨b, off + i, none⟩ = some (.int .u8 (x : Int)) := q1
  clear c0 c1 c4 f1 q1
  generalize w.drewN nq = wz at *
  obtain ⟨c0, c1, -, -, c4⟩ := rs_cells HR1.out
  go_wp2_with fail
  go_quiet (fail)
  have HR2 : Hid (RS (wz.drewN nq) Sb (some ⟨b, off, none⟩) bn bc p ov M 0) := HR1.out
  have HO2 : Hid (OnlyAt Sb w (wz.drewN nq)) := HO1.out.drewN nq
  clear c0 c1 c4 q1' HR1 HO1
  generalize wz.drewN nq = wy at *
  obtain ⟨-, c1, -, -, -⟩ := rs_cells HR2.out
  have f1 := rs_free HR2.out 1
  go_wp2_with fail
  go_loopw [3, 4] (fun vn vi wr => ∃ j : Nat, vi = .int .i64 (j : Int) ∧ j ≤ r ∧ vn = .int .i64 ((x / 2 ^ j : Nat) : Int) ∧ wr = wy) (fun _ vi _ => r - (intOf vi).toNat)
  case atStart => exact ⟨0, rfl, Nat.zero_le _, by rw [Nat.pow_zero, Nat.div_one], rfl⟩
  case round =>
    obtain ⟨j, rfl, hj, rfl, rfl⟩ := hrel
    obtain ⟨y, ey⟩ : ∃ y, x / 2 ^ j = y := ⟨_, rfl⟩
    have hy5 : y ≤ 255 := by rw [← ey]; exact Nat.le_trans (Nat.div_le_self _ _) hx5
    have HY2 : Hid (x / 2 ^ (j + 1) = y / 2) := by show _ = _; rw [Nat.pow_succ, ← Nat.div_div_eq_div_mul, ey]
    have HY := Lib.hid ey
    rw [ey]
    clear ey
    by_cases hlt : j < r
    · have hli : (j : Int) < (r : Int) := by omega
      go_wp2_with fail
      go_roundw
      case rel => exact ⟨j + 1, by go_num, by omega, by rw [HY2.out]; go_num, trivial⟩
      case measure => simp [intOf]; go_num
    · have hli : ¬ (j : Int) < (r : Int) := by omega
      have hjr : j = r := by omega
      subst hjr
      obtain ⟨z, ez⟩ : ∃ z, y % 2 = z := ⟨_, rfl⟩
      have ezi : (y : Int) % 2 = (z : Int) := by omega
      have EZ := Lib.hid ez
      clear ez
      go_wp2_with fail
      go_ret
      exact ⟨by
        have e1 : (x : Int) / 2 ^ j = (y : Int) := by rw [← HY.out]; simp
        rw [e1, show (y : Int) % 2 = (z : Int) by have := EZ.out; omega]; rfl, HR2.out.to (p + 1), HO2.out.set _ _⟩
set_option maxRecDepth 100000 in
set_option maxHeartbeats 4000000 in
/-- Behind an error nothing changes. -/
theorem bit_bad (w : World) (Sb : Nat) (ba : Option Addr) (bn bc p : Nat) (ov : Value) (M : Int) (bad : Nat) (h : RS w Sb ba bn bc p ov M bad) (hb : bad ≠ 0) (hbn : bn ≤ 1000000000) (hp : p ≤ 8 * bn) :
    Calls Try.prog 19 #[.pointer (some ⟨Sb, 0, none⟩)] w fun e w' => e = .returned (.int .i64 0) ∧ RS w' Sb ba bn bc p ov M bad ∧ OnlyAt Sb w w' := by
  have HR := Lib.hid h
  obtain ⟨c0, c1, -, -, c4⟩ := rs_cells h
  have hbi : ((bad : Int) != 0) = true := by simp; omega
  have hbj : ¬ ((bad : Int) = 0) := by omega
  clear h
  by_cases hge : 8 * bn ≤ p
  · have hgi : 8 * (bn : Int) ≤ (p : Int) := by omega
    go_enter Try.func19, Try.ntmps19
    go_wp2_with fail
    go_quiet (fail)
    have HR1 : Hid (RS (w.drewN nq) Sb ba bn bc p ov M bad) := HR.out
    have HO1 : Hid (OnlyAt Sb w (w.drewN nq)) := (OnlyAt.refl Sb w).drewN nq
    clear c0 c1 c4
    generalize w.drewN nq = wz at *
    go_wp2_with fail
    refine (stop_any wz Sb ba bn bc p ov M bad 3 HR1.out).mono ?_
    rw [if_neg hb]
    rintro e w2 ⟨rfl, hr2, ho2⟩
    have HR2 := Lib.hid hr2
    have HO2 : Hid (OnlyAt Sb w w2) := HO1.out.trans ho2
    obtain ⟨-, -, -, -, c4⟩ := rs_cells hr2
    clear hr2 ho2 HR1 HO1
    go_wp2_with fail
    go_ret
    exact ⟨rfl, HR2.out, HO2.out⟩
  · have hgi : ¬ 8 * (bn : Int) ≤ (p : Int) := by omega
    go_enter Try.func19, Try.ntmps19
    go_wp2_with fail
    go_quiet (fail)
    have HR1 : Hid (RS (w.drewN nq) Sb ba bn bc p ov M bad) := HR.out
    have HO1 : Hid (OnlyAt Sb w (w.drewN nq)) := (OnlyAt.refl Sb w).drewN nq
    clear c0 c1 c4
    generalize w.drewN nq = wz at *
    obtain ⟨-, -, -, -, c4⟩ := rs_cells HR1.out
    go_wp2_with fail
    go_ret
    exact ⟨rfl, HR1.out, HO1.out⟩
set_option maxRecDepth 100000 in
set_option maxHeartbeats 4000000 in
/-- At the end. -/
theorem bit_end (w : World) (Sb : Nat) (ba : Option Addr) (bn bc p : Nat) (ov : Value) (M : Int) (h : RS w Sb ba bn bc p ov M 0) (hbn : bn ≤ 1000000000) (hp : p = 8 * bn) :
    Calls Try.prog 19 #[.pointer (some ⟨Sb, 0, none⟩)] w fun e w' => e = .returned (.int .i64 0) ∧ RS w' Sb ba bn bc p ov M 3 ∧ OnlyAt Sb w w' := by
  have HR := Lib.hid h
  obtain ⟨c0, c1, -, -, c4⟩ := rs_cells h
  have hgi : 8 * (bn : Int) ≤ (p : Int) := by omega
  clear h hp
  go_enter Try.func19, Try.ntmps19
  go_wp2_with fail
  go_quiet (fail)
  have HR1 : Hid (RS (w.drewN nq) Sb ba bn bc p ov M 0) := HR.out
  have HO1 : Hid (OnlyAt Sb w (w.drewN nq)) := (OnlyAt.refl Sb w).drewN nq
  clear c0 c1 c4
  generalize w.drewN nq = wz at *
  go_wp2_with fail
  refine (stop_any wz Sb ba bn bc p ov M 0 3 HR1.out).mono ?_
  rw [if_pos rfl]
  rintro e w2 ⟨rfl, hr2, ho2⟩
  have HR2 := Lib.hid hr2
  have HO2 : Hid (OnlyAt Sb w w2) := HO1.out.trans ho2
  obtain ⟨-, -, -, -, c4⟩ := rs_cells hr2
  clear hr2 ho2 HR1 HO1
  go_wp2_with fail
  go_ret
  exact ⟨rfl, HR2.out, HO2.out⟩
end Go.Proofs.Ytkminkeaeclanaa
