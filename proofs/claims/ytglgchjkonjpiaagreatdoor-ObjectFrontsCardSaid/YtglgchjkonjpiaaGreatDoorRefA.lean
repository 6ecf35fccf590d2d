/- The document's unpacking: one bit, a number. -/
import Derived.Test.YtglgchjkonjpiaaGreatDoorInfE
import Derived.Test.YtglgchjkonjpiaaGreatDoorLens
import Derived.Lib.ConvBytes
/-! The document's unpacking: one bit, a number. -/
namespace Go.Proofs.YtglgchjkonjpiaaGreatDoor
open Go.RowKit Plain
set_option linter.unusedVariables false
/-- The document's stream in block Sb. -/
def RS (w : World) (Sb : Nat) (ba : Option Addr) (bn bc at_ : Nat) (ov : Value) (M : Int) (bad : Nat) : Prop :=
  w.heap[Sb]? = some (.cells #[.slice ba bn bc, .int .i64 (at_ : Int), ov, .int .i64 M, .int .i64 (bad : Int)] 55 (0, 0))
/-- The bytes that it reads, apart from its own block. -/
def SrcR (w : World) (Sb : Nat) (ba : Option Addr) (bn bc : Nat) (bs : List Int) : Prop := Bytes w ba bn bs ∧ bn ≤ 1000000000 ∧ ∀ b off, ba = some ⟨b, off, none⟩ → bn = 0 ∨ b ≠ Sb
theorem Bytes.only {w w' : World} {Sb : Nat} {a : Option Addr} {n : Nat} {xs : List Int} (h : Bytes w a n xs) (hne : ∀ b off, a = some ⟨b, off, none⟩ → n = 0 ∨ b ≠ Sb) (ho : OnlyAt Sb w w') : Bytes w' a n xs := by
  obtain ⟨h1, h2, h3, h4 | ⟨b, off, rfl, hc⟩⟩ := h
  · exact ⟨h1, h2, h3, .inl h4⟩
  · rcases hne b off rfl with h0 | hne
    · exact ⟨h1, h2, h3, .inl h0⟩
    refine ⟨h1, h2, h3, .inr ⟨b, off, rfl, fun j hj => ?_⟩⟩
    rw [← hc j hj]
    exact World.cell?_of_block (w := w) (w' := w') (a := ⟨b, off + j, none⟩) (ho.block b hne)
theorem SrcR.only {w w' : World} {Sb : Nat} {ba : Option Addr} {bn bc : Nat} {bs : List Int} (h : SrcR w Sb ba bn bc bs) (ho : OnlyAt Sb w w') : SrcR w' Sb ba bn bc bs := ⟨h.1.only h.2.2 ho, h.2.1, h.2.2⟩
theorem rs_cells {w : World} {Sb : Nat} {ba : Option Addr} {bn bc at_ : Nat} {ov : Value} {M : Int} {bad : Nat} (h : RS w Sb ba bn bc at_ ov M bad) :
    w.cell? ⟨Sb, 0, none⟩ = some (.slice ba bn bc) ∧ w.cell? ⟨Sb, 1, none⟩ = some (.int .i64 (at_ : Int)) ∧ w.cell? ⟨Sb, 2, none⟩ = some ov ∧ w.cell? ⟨Sb, 3, none⟩ = some (.int .i64 M) ∧ w.cell? ⟨Sb, 4, none⟩ = some (.int .i64 (bad : Int)) :=
  ⟨cell_row0 w Sb 0 _ _ _ h, cell_row0 w Sb 1 _ _ _ h, cell_row0 w Sb 2 _ _ _ h, cell_row0 w Sb 3 _ _ _ h, cell_row0 w Sb 4 _ _ _ h⟩
theorem rs_free {w : World} {Sb : Nat} {ba : Option Addr} {bn bc at_ : Nat} {ov : Value} {M : Int} {bad : Nat} (h : RS w Sb ba bn bc at_ ov M bad) (k : Nat) : w.frozen? ⟨Sb, k, none⟩ = false := free_row0 w Sb k _ _ h
theorem RS.bad {w : World} {Sb : Nat} {ba : Option Addr} {bn bc at_ : Nat} {ov : Value} {M : Int} {bad : Nat} (h : RS w Sb ba bn bc at_ ov M bad) (k : Nat) : RS (w.setCell ⟨Sb, 4, none⟩ (.int .i64 (k : Int))) Sb ba bn bc at_ ov M k :=
  heap_setCell_same w Sb 4 _ _ _ h
theorem RS.to {w : World} {Sb : Nat} {ba : Option Addr} {bn bc at_ : Nat} {ov : Value} {M : Int} {bad : Nat} (h : RS w Sb ba bn bc at_ ov M bad) (k : Nat) : RS (w.setCell ⟨Sb, 1, none⟩ (.int .i64 (k : Int))) Sb ba bn bc k ov M bad :=
  heap_setCell_same w Sb 1 _ _ _ h
theorem stop_any (w : World) (Sb : Nat) (ba : Option Addr) (bn bc at_ : Nat) (ov : Value) (M : Int) (bad k : Nat) (h : RS w Sb ba bn bc at_ ov M bad) :
    Calls Tryz.prog 29 #[.pointer (some ⟨Sb, 0, none⟩), .int .i64 (k : Int)] w fun e w' => e = .returned (.tuple #[]) ∧ RS w' Sb ba bn bc at_ ov M (if bad = 0 then k else bad) ∧ OnlyAt Sb w w' := by
  have HR := Lib.hid h
  obtain ⟨-, -, -, -, c4⟩ := rs_cells h
  have f4 := rs_free h 4
  clear h
  by_cases hb : bad = 0
  · subst hb
    rw [if_pos rfl]
    go_enter Tryz.func29, Tryz.ntmps29
    go_wp2_with fail
    go_end0
    exact ⟨rfl, HR.out.bad k, (OnlyAt.refl _ _).set _ _⟩
  · rw [if_neg hb]
    have hbi : ((bad : Int) == 0) = false := by simp; omega
    have hbj : ¬ ((bad : Int) = 0) := by omega
    go_enter Tryz.func29, Tryz.ntmps29
    go_wp2_with fail
    go_end0
    exact ⟨rfl, HR.out, OnlyAt.refl _ _⟩
/-- What a bit is. -/
theorem bit_of {bs : List Int} (hb : ∀ x ∈ bs, 0 ≤ x ∧ x ≤ 255) (p : Nat) : (bs[p / 8]?.getD 0).toNat / 2 ^ (p % 8) % 2 = streamN bs / 2 ^ p % 2 := by
  have h1 := stream_at bs hb (p / 8)
  have h2 : streamN bs / 2 ^ p % 2 ^ 1 = streamN bs / 2 ^ (8 * (p / 8)) % 2 ^ 8 / 2 ^ (p % 8) % 2 ^ 1 := by
    rw [bits_div _ _ _ _ (by omega), show 8 * (p / 8) + p % 8 = p by omega, bits_mod _ _ _ _ (by omega)]
  rw [show (2 : Nat) ^ 8 = 256 from rfl, h1] at h2
  exact h2.symm
set_option maxRecDepth 100000 in
set_option maxHeartbeats 8000000 in
theorem bit_good (w : World) (Sb : Nat) (ba : Option Addr) (bn bc p : Nat) (ov : Value) (M : Int) (bs : List Int) (h : RS w Sb ba bn bc p ov M 0) (HS : SrcR w Sb ba bn bc bs) (hp : p < 8 * bn) :
    Calls Tryz.prog 27 #[.pointer (some ⟨Sb, 0, none⟩)] w fun e w' => e = .returned (.int .i64 ((streamN bs / 2 ^ p % 2 : Nat) : Int)) ∧ RS w' Sb ba bn bc (p + 1) ov M 0 ∧ OnlyAt Sb w w' := by
  have HR := Lib.hid h
  have HSS := Lib.hid HS
  obtain ⟨c0, c1, -, -, c4⟩ := rs_cells h
  have f1 := rs_free h 1
  have hbn := HS.2.1
  have hmem : ∀ x ∈ bs, 0 ≤ x ∧ x ≤ 255 := mem_of_getD HS.1.2.2.1
  have hbit := bit_of hmem p
  obtain ⟨b, off, rfl, hc⟩ : ∃ b off, ba = some ⟨b, off, none⟩ ∧ ∀ j, j < bn → w.cell? ⟨b, off + j, none⟩ = some (.int .u8 (bs[j]?.getD 0)) := by
    rcases HS.1.2.2.2 with h | ⟨b, off, h⟩
    · omega
    · exact ⟨b, off, h⟩
  obtain ⟨i, hi⟩ : ∃ i, p / 8 = i := ⟨_, rfl⟩
  obtain ⟨r, hr⟩ : ∃ r, p % 8 = r := ⟨_, rfl⟩
  have hin : i < bn := by omega
  have q1 := hc i hin
  have hx := HS.1.2.2.1 i
  rw [hi, hr] at hbit
  obtain ⟨x, ex⟩ : ∃ x : Nat, bs[i]?.getD 0 = (x : Int) := Int.eq_ofNat_of_zero_le hx.1
  rw [ex] at q1 hbit
  rw [Int.toNat_natCast] at hbit
  rw [← hbit]
  have hx5 : x ≤ 255 := by rw [ex] at hx; omega
  have hi1 : (p : Int) / 8 = (i : Int) := by omega
  have hr1 : (p : Int) % 8 = (r : Int) := by omega
  have hini : (i : Int) < (bn : Int) := by omega
  have hr8 : r < 8 := by omega
  have hge : ¬ 8 * (bn : Int) ≤ (p : Int) := by omega
  have hp1 : p ≤ 8000000000 := by omega
  clear h HS hc hbit hmem hx ex hi hr
  go_enter Tryz.func27, Tryz.ntmps27
  go_wp2_with fail
  go_quiet (fail)
  have HR1 : Hid (RS (w.drewN nq) Sb (some ⟨b, off, none⟩) bn bc p ov M 0) := HR.out
  have HO1 : Hid (OnlyAt Sb w (w.drewN nq)) := (OnlyAt.refl Sb w).drewN nq
  have q1' : (w.drewN nq).cell? ⟨b, off + i, none⟩ = some (.int .u8 (x : Int)) := q1
  clear c0 c1 c4 f1 q1
  generalize w.drewN nq = wz at *
  obtain ⟨c0, c1, -, -, c4⟩ := rs_cells HR1.out
  go_wp2_with fail
  go_quiet (fail)
  have HR2 : Hid (RS (wz.drewN nq) Sb (some ⟨b, off, none⟩) bn bc p ov M 0) := HR1.out
  have HO2 : Hid (OnlyAt Sb w (wz.drewN nq)) := HO1.out.drewN nq
  clear c0 c1 c4 q1' HR1 HO1
  generalize wz.drewN nq = wy at *
  obtain ⟨-, c1, -, -, -⟩ := rs_cells HR2.out
  have f1 := rs_free HR2.out 1
  go_wp2_with fail
  go_loopw [3, 4] (fun vn vi wr => ∃ j : Nat, vi = .int .i64 (j : Int) ∧ j ≤ r ∧ vn = .int .i64 ((x / 2 ^ j : Nat) : Int) ∧ wr = wy) (fun _ vi _ => r - (intOf vi).toNat)
  case atStart => exact ⟨0, rfl, Nat.zero_le _, by rw [Nat.pow_zero, Nat.div_one], rfl⟩
  case round =>
    obtain ⟨j, rfl, hj, rfl, rfl⟩ := hrel
    obtain ⟨y, ey⟩ : ∃ y, x / 2 ^ j = y := ⟨_, rfl⟩
    have hy5 : y ≤ 255 := by rw [← ey]; exact Nat.le_trans (Nat.div_le_self _ _) hx5
    have HY2 : Hid (x / 2 ^ (j + 1) = y / 2) := by show _ = _; rw [Nat.pow_succ, ← Nat.div_div_eq_div_mul, ey]
    have HY := Lib.hid ey
    rw [ey]
    clear ey
    by_cases hlt : j < r
    · have hli : (j : Int) < (r : Int) := by omega
      go_wp2_with fail
      go_roundw
      case rel => exact ⟨j + 1, by go_num, by omega, by rw [HY2.out]; go_num, trivial⟩
      case measure => simp [intOf]; go_num
    · have hli : ¬ (j : Int) < (r : Int) := by omega
      have hjr : j = r := by omega
      subst hjr
      obtain ⟨z, ez⟩ : ∃ z, y % 2 = z := ⟨_, rfl⟩
      have ezi : (y : Int) % 2 = (z : Int) := by omega
      have EZ := Lib.hid ez
      clear ez
      go_wp2_with fail
      go_ret
      exact ⟨by
        have e1 : (x : Int) / 2 ^ j = (y : Int) := by rw [← HY.out]; simp
        rw [e1, show (y : Int) % 2 = (z : Int) by have := EZ.out; omega]; rfl, HR2.out.to (p + 1), HO2.out.set _ _⟩
set_option maxRecDepth 100000 in
set_option maxHeartbeats 4000000 in
/-- Behind an error nothing changes. -/
theorem bit_bad (w : World) (Sb : Nat) (ba : Option Addr) (bn bc p : Nat) (ov : Value) (M : Int) (bad : Nat) (h : RS w Sb ba bn bc p ov M bad) (hb : bad ≠ 0) (hbn : bn ≤ 1000000000) (hp : p ≤ 8 * bn) :
    Calls Tryz.prog 27 #[.pointer (some ⟨Sb, 0, none⟩)] w fun e w' => e = .returned (.int .i64 0) ∧ RS w' Sb ba bn bc p ov M bad ∧ OnlyAt Sb w w' := by
  have HR := Lib.hid h
  obtain ⟨c0, c1, -, -, c4⟩ := rs_cells h
  have hbi : ((bad : Int) != 0) = true := by simp; omega
  have hbj : ¬ ((bad : Int) = 0) := by omega
  clear h
  by_cases hge : 8 * bn ≤ p
  · have hgi : 8 * (bn : Int) ≤ (p : Int) := by omega
    go_enter Tryz.func27, Tryz.ntmps27
    go_wp2_with fail
    go_quiet (fail)
    have HR1 : Hid (RS (w.drewN nq) Sb ba bn bc p ov M bad) := HR.out
    have HO1 : Hid (OnlyAt Sb w (w.drewN nq)) := (OnlyAt.refl Sb w).drewN nq
    clear c0 c1 c4
    generalize w.drewN nq = wz at *
    go_wp2_with fail
    refine (stop_any wz Sb ba bn bc p ov M bad 3 HR1.out).mono ?_
    rw [if_neg hb]
    rintro e w2 ⟨rfl, hr2, ho2⟩
    have HR2 := Lib.hid hr2
    have HO2 : Hid (OnlyAt Sb w w2) := HO1.out.trans ho2
    obtain ⟨-, -, -, -, c4⟩ := rs_cells hr2
    clear hr2 ho2 HR1 HO1
    go_wp2_with fail
    go_ret
    exact ⟨rfl, HR2.out, HO2.out⟩
  · have hgi : ¬ 8 * (bn : Int) ≤ (p : Int) := by omega
    go_enter Tryz.func27, Tryz.ntmps27
    go_wp2_with fail
    go_quiet (fail)
    have HR1 : Hid (RS (w.drewN nq) Sb ba bn bc p ov M bad) := HR.out
    have HO1 : Hid (OnlyAt Sb w (w.drewN nq)) := (OnlyAt.refl Sb w).drewN nq
    clear c0 c1 c4
    generalize w.drewN nq = wz at *
    obtain ⟨-, -, -, -, c4⟩ := rs_cells HR1.out
    go_wp2_with fail
    go_ret
    exact ⟨rfl, HR1.out, HO1.out⟩
set_option maxRecDepth 100000 in
set_option maxHeartbeats 4000000 in
/-- At the end. -/
theorem bit_end (w : World) (Sb : Nat) (ba : Option Addr) (bn bc p : Nat) (ov : Value) (M : Int) (h : RS w Sb ba bn bc p ov M 0) (hbn : bn ≤ 1000000000) (hp : p = 8 * bn) :
    Calls Tryz.prog 27 #[.pointer (some ⟨Sb, 0, none⟩)] w fun e w' => e = .returned (.int .i64 0) ∧ RS w' Sb ba bn bc p ov M 3 ∧ OnlyAt Sb w w' := by
  have HR := Lib.hid h
  obtain ⟨c0, c1, -, -, c4⟩ := rs_cells h
  have hgi : 8 * (bn : Int) ≤ (p : Int) := by omega
  clear h hp
  go_enter Tryz.func27, Tryz.ntmps27
  go_wp2_with fail
  go_quiet (fail)
  have HR1 : Hid (RS (w.drewN nq) Sb ba bn bc p ov M 0) := HR.out
  have HO1 : Hid (OnlyAt Sb w (w.drewN nq)) := (OnlyAt.refl Sb w).drewN nq
  clear c0 c1 c4
  generalize w.drewN nq = wz at *
  go_wp2_with fail
  refine (stop_any wz Sb ba bn bc p ov M 0 3 HR1.out).mono ?_
  rw [if_pos rfl]
  rintro e w2 ⟨rfl, hr2, ho2⟩
  have HR2 := Lib.hid hr2
  have HO2 : Hid (OnlyAt Sb w w2) := HO1.out.trans ho2
  obtain ⟨-, -, -, -, c4⟩ := rs_cells hr2
  clear hr2 ho2 HR1 HO1
  go_wp2_with fail
  go_ret
  exact ⟨rfl, HR2.out, HO2.out⟩
end Go.Proofs.YtglgchjkonjpiaaGreatDoor
/-! The document's unpacking: a number of some bits. -/
namespace Go.Proofs.YtglgchjkonjpiaaGreatDoor
open Go.RowKit Plain
set_option linter.unusedVariables false
/-- What a number's reading is: the number, or the bits end and the value is any. -/
def NumQ (w : World) (Sb : Nat) (ba : Option Addr) (bn bc p n : Nat) (ov : Value) (M : Int) (N : Nat) (e : Ending) (w' : World) : Prop :=
  (∃ x q, num N (8 * bn) p n = .ok (x, q) ∧ e = .returned (.int .i64 (x : Int)) ∧ RS w' Sb ba bn bc q ov M 0 ∧ OnlyAt Sb w w') ∨
    (num N (8 * bn) p n = .error 3 ∧ ∃ x q : Nat, x < 2 ^ n ∧ q ≤ 8 * bn ∧ e = .returned (.int .i64 (x : Int)) ∧ RS w' Sb ba bn bc q ov M 3 ∧ OnlyAt Sb w w')
set_option maxRecDepth 100000 in
set_option maxHeartbeats 8000000 in
/-- The bits of a number, one after the other; k: those that are read, bad: they ended. -/
theorem rnumber_any (w : World) (Sb : Nat) (ba : Option Addr) (bn bc p n : Nat) (ov : Value) (M : Int) (bs : List Int) (h : RS w Sb ba bn bc p ov M 0) (HS : SrcR w Sb ba bn bc bs) (hn : n ≤ 16) (hp : p ≤ 8 * bn) :
    Calls Tryz.prog 28 #[.pointer (some ⟨Sb, 0, none⟩), .int .i64 (n : Int)] w (NumQ w Sb ba bn bc p n ov M (streamN bs)) := by
  have HR := Lib.hid h
  have HSS := Lib.hid HS
  have hbn := HS.2.1
  generalize hN : streamN bs = N at *
  have HN := Lib.hid hN
  clear h HS hN
  go_enter Tryz.func28, Tryz.ntmps28
  go_wp2_with fail
  go_loopw [5, 6, 7] (fun vk vo vi wr => ∃ (i x q : Nat) (bad : Nat), vi = .int .i64 (i : Int) ∧ i ≤ n ∧ vo = .int .i64 ((2 ^ i : Nat) : Int) ∧ vk = .int .i64 (x : Int) ∧ x < 2 ^ i ∧ q ≤ 8 * bn ∧ RS wr Sb ba bn bc q ov M bad ∧ OnlyAt Sb w wr ∧
      ((bad = 0 ∧ q = p + i ∧ x = N / 2 ^ p % 2 ^ i) ∨ (bad = 3 ∧ 8 * bn < p + i))) (fun _ _ vi _ => n - (intOf vi).toNat)
  case atStart => exact ⟨0, 0, p, 0, rfl, Nat.zero_le _, rfl, rfl, by simp, hp, HR.out, OnlyAt.refl _ _, .inl ⟨rfl, rfl, by rw [Nat.pow_zero, Nat.mod_one]⟩⟩
  case round =>
    obtain ⟨i, x, q, bad, rfl, hi, rfl, rfl, hx, hq, hrs, ho, hst⟩ := hrel
    have HRS := Lib.hid hrs
    have HO := Lib.hid ho
    have HST := Lib.hid hst
    have HX := Lib.hid hx
    have hp2 : 2 ^ i ≤ 65536 := by have := Nat.pow_le_pow_right (n := 2) (by omega) (show i ≤ 16 by omega); simpa using this
    have HP2 : Hid (2 ^ (i + 1) = 2 * 2 ^ i) := by show _ = _; rw [Nat.pow_succ, Nat.mul_comm]
    obtain ⟨o, ho2⟩ : ∃ o, 2 ^ i = o := ⟨_, rfl⟩
    have HOO := Lib.hid ho2
    rw [ho2] at hp2 HP2 HX
    have hx6 : x ≤ 65536 := by have := HX.out; omega
    rw [ho2]
    clear hrs ho hst hx ho2 HR
    by_cases hlt : i < n
    · have hli : (i : Int) < (n : Int) := by omega
      rcases HST.out with ⟨rfl, hqe, hxe⟩ | ⟨rfl, hbe⟩
      · by_cases hend : q = 8 * bn
        · have hcall := bit_end wr Sb ba bn bc q ov M HRS.out hbn hend
          have HQE := Lib.hid hqe
          have HQ8 := Lib.hid hend
          clear hqe hxe hend
          go_wp2_with fail
          refine hcall.mono ?_
          rintro e w2 ⟨rfl, hr2, ho2⟩
          have HR2 := Lib.hid hr2
          have HO2 := Lib.hid (HO.out.trans ho2)
          clear hr2 ho2 hcall
          go_wp2_with fail
          go_roundw
          case rel => exact ⟨i + 1, x, q, 3, by go_num, by omega, by rw [HP2.out]; go_num, by go_num, by rw [HP2.out]; have := HX.out; omega, hq, HR2.out, HO2.out, .inr ⟨rfl, by have := HQE.out; have := HQ8.out; omega⟩⟩
          case measure => simp [intOf]; go_num
        · have hcall := bit_good wr Sb ba bn bc q ov M bs HRS.out (HSS.out.only HO.out) (by omega)
          have HB2 : Hid (streamN bs / 2 ^ q % 2 < 2) := Nat.mod_lt _ (by omega)
          have HNX : Hid (N / 2 ^ p % 2 ^ (i + 1) = x + o * (streamN bs / 2 ^ q % 2)) := by
            show _ = _
            rw [HN.out, bits_split, ← hxe, HOO.out, hqe]
          generalize streamN bs / 2 ^ q % 2 = bb at *
          have HQE := Lib.hid hqe
          have hb2 : bb < 2 := HB2.out
          have hob : (o : Int) * (bb : Int) = ((o * bb : Nat) : Int) := by simp
          have hob2 : o * bb ≤ 65536 := by
            have : bb = 0 ∨ bb = 1 := by omega
            rcases this with rfl | rfl <;> omega
          have HOB : Hid (o * bb + x < 2 * o) := by
            have h1 := HX.out
            have : bb = 0 ∨ bb = 1 := by omega
            show _ < _
            rcases this with rfl | rfl <;> omega
          clear hqe hxe
          generalize o * bb = ob at *
          go_wp2_with fail
          refine hcall.mono ?_
          rintro e w2 ⟨rfl, hr2, ho2⟩
          have HR2 := Lib.hid hr2
          have HO2 := Lib.hid (HO.out.trans ho2)
          clear hr2 ho2 hcall
          go_wp2_with fail
          go_roundw
          case rel => exact ⟨i + 1, x + ob, q + 1, 0, by go_num, by omega, by rw [HP2.out]; go_num, by go_num, by rw [HP2.out]; have := HOB.out; omega, by omega, HR2.out, HO2.out, .inl ⟨rfl, by have := HQE.out; omega, HNX.out.symm⟩⟩
          case measure => simp [intOf]; go_num
      · have hcall := bit_bad wr Sb ba bn bc q ov M 3 HRS.out (by omega) hbn hq
        have HBE := Lib.hid hbe
        clear hbe
        go_wp2_with fail
        refine hcall.mono ?_
        rintro e w2 ⟨rfl, hr2, ho2⟩
        have HR2 := Lib.hid hr2
        have HO2 := Lib.hid (HO.out.trans ho2)
        clear hr2 ho2 hcall
        go_wp2_with fail
        go_roundw
        case rel => exact ⟨i + 1, x, q, 3, by go_num, by omega, by rw [HP2.out]; go_num, by go_num, by rw [HP2.out]; have := HX.out; omega, hq, HR2.out, HO2.out, .inr ⟨rfl, by have := HBE.out; omega⟩⟩
        case measure => simp [intOf]; go_num
    · have hin : i = n := by omega
      subst hin
      have hli : ¬ (i : Int) < (i : Int) := by omega
      have HRES : Hid (∀ e, e = Ending.returned (.int .i64 (x : Int)) → NumQ w Sb ba bn bc p i ov M N e wr) := by
        intro e he
        rcases HST.out with ⟨rfl, hqe, hxe⟩ | ⟨rfl, hbe⟩
        · refine .inl ⟨x, q, ?_, he, HRS.out, HO.out⟩
          unfold num
          rw [if_pos (by omega), ← hxe, hqe]
        · refine .inr ⟨?_, x, q, by rw [HOO.out]; exact HX.out, hq, he, HRS.out, HO.out⟩
          unfold num
          rw [if_neg (by omega)]
      go_wp2_with fail
      go_ret
      exact HRES.out _ rfl
end Go.Proofs.YtglgchjkonjpiaaGreatDoor
/-! The document's unpacking: where the stream stands, and what each of its calls does to that. -/
namespace Go.Proofs.YtglgchjkonjpiaaGreatDoor
open Go.RowKit Plain
set_option linter.unusedVariables false
/-! ### Errors that stay -/
def Is {α : Type} (r : Except Nat α) (bad : Nat) (x : α) : Prop := (bad = 0 ∧ r = .ok x) ∨ (bad ≠ 0 ∧ r = .error bad)
def Tr {α : Type} (bad : Nat) (r : Except Nat α) (b' : Nat) (x : α) : Prop := (bad = 0 → Is r b' x) ∧ (bad ≠ 0 → b' = bad)
def bindE {α β : Type} (r : Except Nat α) (f : α → Except Nat β) : Except Nat β := match r with
  | .error e => .error e
  | .ok x => f x
theorem Tr.bind {α β : Type} {b b1 b2 : Nat} {r : Except Nat α} {f : α → Except Nat β} {x : α} {y : β} (h1 : Tr b r b1 x) (h2 : Tr b1 (f x) b2 y) : Tr b (bindE r f) b2 y := by
  refine ⟨fun hb => ?_, fun hb => ?_⟩
  · rcases h1.1 hb with ⟨e1, rfl⟩ | ⟨e1, rfl⟩
    · exact h2.1 e1
    · rw [h2.2 e1]; exact .inr ⟨e1, rfl⟩
  · have := h1.2 hb
    rw [h2.2 (by omega), this]
theorem Tr.ok {α : Type} (b : Nat) (x : α) : Tr b (.ok x) b x := ⟨fun h => .inl ⟨h, rfl⟩, fun _ => rfl⟩
theorem Tr.err {α : Type} (b k : Nat) (hk : k ≠ 0) (x : α) : Tr b (.error k) (if b = 0 then k else b) x := by
  refine ⟨fun h => ?_, fun h => by rw [if_neg h]⟩
  rw [if_pos h]
  exact .inr ⟨hk, rfl⟩
theorem Tr.dead {α : Type} {b : Nat} (h : b ≠ 0) (r : Except Nat α) (x : α) : Tr b r b x := ⟨fun e => absurd e h, fun _ => rfl⟩
theorem Tr.live {α : Type} {b : Nat} {r : Except Nat α} {x : α} (h : Tr b r 0 x) : b = 0 ∧ r = .ok x := by
  have hb : b = 0 := by
    rcases Nat.eq_zero_or_pos b with e | e
    · exact e
    · have := h.2 (by omega); omega
  rcases h.1 hb with ⟨-, h⟩ | ⟨h, -⟩
  · exact ⟨hb, h⟩
  · exact absurd rfl h
theorem Tr.any {α : Type} {b b' : Nat} {r : Except Nat α} {x : α} (h : Tr b r b' x) (hb : b' ≠ 0) (y : α) : Tr b r b' y := by
  refine ⟨fun e => ?_, h.2⟩
  rcases h.1 e with ⟨e1, -⟩ | h1
  · exact absurd e1 hb
  · exact .inr h1
theorem Tr.of_eq {α : Type} {b b' : Nat} {r r' : Except Nat α} {x : α} (h : Tr b r b' x) (e : b = 0 → r = r') : Tr b r' b' x := ⟨fun hb => e hb ▸ h.1 hb, h.2⟩
theorem Tr.is {α : Type} {b' : Nat} {r : Except Nat α} {x : α} (h : Tr 0 r b' x) : Is r b' x := h.1 rfl
/-! ### The stream in memory -/
def RL (w0 : World) (Sb : Nat) (ba : Option Addr) (bn bc : Nat) (M : Int) (w : World) (p bad : Nat) (mv : Value) (made : List Int) : Prop :=
  RS w Sb ba bn bc p mv M bad ∧ p ≤ 8 * bn ∧ Mid w w0.heap.size mv made.length made ∧ mv.ownBlock ≠ some Sb ∧ Below w0.heap.size w0 w ∧ w0.heap.size ≤ Sb ∧ made.length ≤ M.toNat ∧ ∀ x ∈ made, 0 ≤ x ∧ x ≤ 255
/-- The bytes that are read. -/
structure SrcW (w0 : World) (ba : Option Addr) (bn : Nat) (M : Int) (N : Nat) (bs : List Int) : Prop where
  bytes : Bytes w0 ba bn bs
  few : bn ≤ 1000000000
  most : M ≤ 1000000000
  num : N = streamN bs
theorem RL.src {w0 w : World} {Sb : Nat} {ba : Option Addr} {bn bc : Nat} {M : Int} {N p bad : Nat} {mv : Value} {made bs : List Int} (h : RL w0 Sb ba bn bc M w p bad mv made) (hs : SrcW w0 ba bn M N bs) : SrcR w Sb ba bn bc bs := by
  refine ⟨hs.bytes.below h.2.2.2.2.1, hs.few, fun b off e => ?_⟩
  rcases hs.bytes.2.2.2 with h0 | ⟨b', off', e', hc⟩
  · exact .inl h0
  · by_cases h0 : bn = 0
    · exact .inl h0
    · right
      rw [e] at e'
      injection e' with e'
      injection e' with e1 e2
      have := World.block_lt_of_cell? w0 _ (hc 0 (by omega))
      have hlt : b' < w0.heap.size := this
      have hge := h.2.2.2.2.2.1
      omega
theorem RL.lt {w0 w : World} {Sb : Nat} {ba : Option Addr} {bn bc : Nat} {M : Int} {p bad : Nat} {mv : Value} {made : List Int} (h : RL w0 Sb ba bn bc M w p bad mv made) : Sb < w.heap.size := by
  have hh : w.heap[Sb]? = _ := h.1
  rcases Nat.lt_or_ge Sb w.heap.size with h | h
  · exact h
  · rw [Array.getElem?_eq_none h] at hh; cases hh
theorem RL.below {w0 w w' : World} {Sb : Nat} {ba : Option Addr} {bn bc : Nat} {M : Int} {p bad : Nat} {mv : Value} {made : List Int} (h : RL w0 Sb ba bn bc M w p bad mv made) (hb : Below w.heap.size w w') : RL w0 Sb ba bn bc M w' p bad mv made := by
  have hlt := h.lt
  obtain ⟨h1, h2, hm, hO, hbel, h5⟩ := h
  exact ⟨(hb.block Sb hlt).trans h1, h2, hm.below hb, hO, hbel.trans (hb.mono hbel.size), h5⟩
/-- Only the stream's own block is changed. -/
theorem RL.only {w0 w w' : World} {Sb : Nat} {ba : Option Addr} {bn bc : Nat} {M : Int} {p bad p' bad' : Nat} {mv : Value} {made : List Int} (h : RL w0 Sb ba bn bc M w p bad mv made) (ho : OnlyAt Sb w w') (hr : RS w' Sb ba bn bc p' mv M bad') (hp : p' ≤ 8 * bn) :
    RL w0 Sb ba bn bc M w' p' bad' mv made ∧ Turn Sb mv mv w w' := by
  obtain ⟨-, -, hm, hO, hb, hge, h5⟩ := h
  have hs := ho.size
  have hg : w.grownBy w' (some Sb) := ⟨ho.os, ho.tape, ho.output, by omega, fun k _ hk => ho.block k (fun e => hk (by rw [e]))⟩
  exact ⟨⟨hr, hp, hm.kept hg (.inr hO), hO, ⟨ho.os.trans hb.os, ho.tape.trans hb.tape, ho.output.trans hb.output, by rw [hs]; exact hb.size, fun k hk => (ho.block k (by omega)).trans (hb.block k hk)⟩, hge, h5⟩, ⟨ho.os, ho.tape, ho.output, by omega, fun k _ hk _ => ho.block k hk, fun k hk => .inl hk⟩⟩
/-- The row has grown, and is put down. -/
theorem RL.grow {w0 w wA w2 : World} {Sb : Nat} {ba : Option Addr} {bn bc : Nat} {M : Int} {p bad : Nat} {mv v2 : Value} {made m2 : List Int} (h : RL w0 Sb ba bn bc M w p bad mv made) (hb : Below w.heap.size w wA)
    (hg : wA.grownBy w2 mv.ownBlock) (hm : Mid w2 w0.heap.size v2 m2.length m2) (ho : v2.ownBlock = mv.ownBlock ∨ v2.ownBlock = some wA.heap.size) (hl : m2.length ≤ M.toNat) (hr : ∀ x ∈ m2, 0 ≤ x ∧ x ≤ 255) :
    w2.heap[Sb]? = w.heap[Sb]? ∧ RL w0 Sb ba bn bc M (w2.setCell ⟨Sb, 2, none⟩ v2) p bad v2 m2 ∧ Turn Sb mv v2 w (w2.setCell ⟨Sb, 2, none⟩ v2) := by
  have hOlt := h.lt
  obtain ⟨hh, hp, hmid, hO, hbel, hge, -, -⟩ := h
  have hsz := hb.size
  have e1 : w2.heap[Sb]? = w.heap[Sb]? := (hg.block Sb (by omega) (fun e => hO e.symm)).trans (hb.block Sb hOlt)
  have hvO : v2.ownBlock ≠ some Sb := by
    rcases ho with e | e
    · rw [e]; exact hO
    · rw [e]; intro e'; injection e' with e'; omega
  have hset := grownBy_set1 w2 Sb 2 v2
  have hs0 := hbel.size
  refine ⟨e1, ⟨heap_setCell_same w2 Sb 2 _ _ v2 (e1.trans hh), hp, hm.kept hset (.inr hvO), hvO, ?_, hge, hl, hr⟩, ?_⟩
  · have b1 : Below w0.heap.size w0 wA := hbel.trans (hb.mono hs0)
    have b2 := b1.grown hg (by omega) (fun k hk => (hmid.block_ge k hk).1)
    exact b2.setCell hge _
  · refine ⟨hg.os.trans hb.os, hg.tape.trans hb.tape, hg.output.trans hb.output, ?_, fun k hk hkO hkm => ?_, fun k hk => ?_⟩
    · rw [World.size_setCell]; exact Nat.le_trans hsz hg.size
    · exact (Below.heap_setCell w2 _ v2 k hkO).trans ((hg.block k (by omega) (fun e => hkm e.symm)).trans (hb.block k hk))
    · rcases ho with e | e
      · exact .inl (e ▸ hk)
      · rw [e] at hk; injection hk with hk; exact .inr (by omega)
/-! ### The calls -/
section
variable {w0 : World} {Sb : Nat} {ba : Option Addr} {bn bc : Nat} {M : Int} {N : Nat} {bs : List Int}
theorem rstop (w : World) (p bad : Nat) (mv : Value) (made : List Int) (k : Nat) (H : RL w0 Sb ba bn bc M w p bad mv made) :
    Calls Tryz.prog 29 #[.pointer (some ⟨Sb, 0, none⟩), .int .i64 (k : Int)] w fun e w' => e = .returned (.tuple #[]) ∧ RL w0 Sb ba bn bc M w' p (if bad = 0 then k else bad) mv made ∧ Turn Sb mv mv w w' := by
  refine (stop_any w Sb ba bn bc p mv M bad k H.1).mono ?_
  rintro e w' ⟨rfl, h1, h2⟩
  obtain ⟨h3, h4⟩ := H.only h2 h1 H.2.1
  exact ⟨rfl, h3, h4⟩
/-- What a reading does. -/
def NumR (w0 : World) (Sb : Nat) (ba : Option Addr) (bn bc : Nat) (M : Int) (N : Nat) (w : World) (p bad : Nat) (mv : Value) (made : List Int) (n : Nat) (e : Ending) (w' : World) : Prop :=
  ∃ x q b' : Nat, e = .returned (.int .i64 (x : Int)) ∧ x < 2 ^ n ∧ RL w0 Sb ba bn bc M w' q b' mv made ∧ Turn Sb mv mv w w' ∧ Tr bad (num N (8 * bn) p n) b' (x, q)
theorem rbit (HS : SrcW w0 ba bn M N bs) (w : World) (p bad : Nat) (mv : Value) (made : List Int) (H : RL w0 Sb ba bn bc M w p bad mv made) :
    Calls Tryz.prog 27 #[.pointer (some ⟨Sb, 0, none⟩)] w (NumR w0 Sb ba bn bc M N w p bad mv made 1) := by
  by_cases hb : bad = 0
  · subst hb
    by_cases hp : p < 8 * bn
    · refine (bit_good w Sb ba bn bc p mv M bs H.1 (H.src HS) hp).mono ?_
      rintro e w' ⟨rfl, h1, h2⟩
      obtain ⟨h3, h4⟩ := H.only h2 h1 (by omega)
      refine ⟨_, _, _, rfl, by omega, h3, h4, fun _ => .inl ⟨rfl, ?_⟩, fun h => absurd rfl h⟩
      unfold num
      rw [if_pos (by omega), HS.num]
    · refine (bit_end w Sb ba bn bc p mv M H.1 HS.few (by have := H.2.1; omega)).mono ?_
      rintro e w' ⟨rfl, h1, h2⟩
      obtain ⟨h3, h4⟩ := H.only h2 h1 H.2.1
      refine ⟨0, _, _, rfl, by omega, h3, h4, fun _ => .inr ⟨by omega, ?_⟩, fun h => absurd rfl h⟩
      unfold num
      rw [if_neg (by omega)]
  · refine (bit_bad w Sb ba bn bc p mv M bad H.1 hb HS.few H.2.1).mono ?_
    rintro e w' ⟨rfl, h1, h2⟩
    obtain ⟨h3, h4⟩ := H.only h2 h1 H.2.1
    exact ⟨0, _, _, rfl, by omega, h3, h4, fun h => absurd h hb, fun _ => rfl⟩
set_option maxRecDepth 100000 in
set_option maxHeartbeats 4000000 in
theorem rnumber_bad (w : World) (p n bad : Nat) (mv : Value) (h : RS w Sb ba bn bc p mv M bad) (hb : bad ≠ 0) (hbn : bn ≤ 1000000000) (hn : n ≤ 16) (hp : p ≤ 8 * bn) :
    Calls Tryz.prog 28 #[.pointer (some ⟨Sb, 0, none⟩), .int .i64 (n : Int)] w fun e w' => e = .returned (.int .i64 0) ∧ RS w' Sb ba bn bc p mv M bad ∧ OnlyAt Sb w w' := by
  have HR := Lib.hid h
  have HBAD := Lib.hid hb
  clear h hb
  go_enter Tryz.func28, Tryz.ntmps28
  go_wp2_with fail
  go_loopw [5, 6, 7] (fun vk vo vi wr => ∃ i : Nat, vi = .int .i64 (i : Int) ∧ i ≤ n ∧ vo = .int .i64 ((2 ^ i : Nat) : Int) ∧ vk = .int .i64 0 ∧ RS wr Sb ba bn bc p mv M bad ∧ OnlyAt Sb w wr) (fun _ _ vi _ => n - (intOf vi).toNat)
  case atStart => exact ⟨0, rfl, Nat.zero_le _, rfl, rfl, HR.out, OnlyAt.refl _ _⟩
  case round =>
    obtain ⟨i, rfl, hi, rfl, rfl, hrs, ho⟩ := hrel
    have HRS := Lib.hid hrs
    have HO := Lib.hid ho
    have hp2 : 2 ^ i ≤ 65536 := by have := Nat.pow_le_pow_right (n := 2) (by omega) (show i ≤ 16 by omega); simpa using this
    have HP2 : Hid (2 ^ (i + 1) = 2 * 2 ^ i) := by show _ = _; rw [Nat.pow_succ, Nat.mul_comm]
    obtain ⟨o, ho2⟩ : ∃ o, 2 ^ i = o := ⟨_, rfl⟩
    rw [ho2] at hp2 HP2
    rw [ho2]
    clear hrs ho ho2 HR
    by_cases hlt : i < n
    · have hli : (i : Int) < (n : Int) := by omega
      have hcall := bit_bad wr Sb ba bn bc p mv M bad HRS.out HBAD.out hbn hp
      go_wp2_with fail
      refine hcall.mono ?_
      rintro e w2 ⟨rfl, hr2, ho2⟩
      have HR2 := Lib.hid hr2
      have HO2 := Lib.hid (HO.out.trans ho2)
      clear hr2 ho2 hcall
      go_wp2_with fail
      go_roundw
      case rel => exact ⟨i + 1, by go_num, by omega, by rw [HP2.out]; go_num, by go_num, HR2.out, HO2.out⟩
      case measure => simp [intOf]; go_num
    · have hli : ¬ (i : Int) < (n : Int) := by omega
      go_wp2_with fail
      go_ret
      exact ⟨rfl, HRS.out, HO.out⟩
theorem rnum (HS : SrcW w0 ba bn M N bs) (w : World) (p bad : Nat) (mv : Value) (made : List Int) (n : Nat) (hn : n ≤ 16) (H : RL w0 Sb ba bn bc M w p bad mv made) :
    Calls Tryz.prog 28 #[.pointer (some ⟨Sb, 0, none⟩), .int .i64 (n : Int)] w (NumR w0 Sb ba bn bc M N w p bad mv made n) := by
  by_cases hb : bad = 0
  · subst hb
    refine (rnumber_any w Sb ba bn bc p n mv M bs H.1 (H.src HS) hn H.2.1).mono ?_
    rw [← HS.num]
    rintro e w' (⟨x, q, h1, rfl, h2, h3⟩ | ⟨h1, x, q, hx, hq, rfl, h2, h3⟩)
    · have hk := num_ok h1
      obtain ⟨h4, h5⟩ := H.only h3 h2 hk.2.2
      exact ⟨x, q, 0, rfl, hk.1, h4, h5, fun _ => .inl ⟨rfl, h1⟩, fun h => absurd rfl h⟩
    · obtain ⟨h4, h5⟩ := H.only h3 h2 hq
      exact ⟨x, q, 3, rfl, hx, h4, h5, fun _ => .inr ⟨by omega, h1⟩, fun h => absurd rfl h⟩
  · refine (rnumber_bad w p n bad mv H.1 hb HS.few hn H.2.1).mono ?_
    rintro e w' ⟨rfl, h1, h2⟩
    obtain ⟨h3, h4⟩ := H.only h2 h1 H.2.1
    exact ⟨0, _, _, rfl, Nat.two_pow_pos n, h3, h4, fun h => absurd h hb, fun _ => rfl⟩
end
end Go.Proofs.YtglgchjkonjpiaaGreatDoor
/-! The document's unpacking: rows of lengths. -/
namespace Go.Proofs.YtglgchjkonjpiaaGreatDoor
open Go.RowKit Plain
set_option linter.unusedVariables false
theorem Row64.none (w : World) (base : Nat) : Row64 w base (.slice none 0 0) 0 [] := ⟨rfl, .inl ⟨rfl, rfl⟩⟩
set_option maxRecDepth 100000 in
set_option maxHeartbeats 4000000 in
theorem many_any (w : World) (base : Nat) (a : Option Addr) (n c : Nat) (xs : List Nat) (x t : Nat) (hx : x ≤ 100000) (ht : n + t ≤ 100000) (H : Row64 w base (.slice a n c) n xs) (hs : base ≤ w.heap.size) :
    Calls Tryz.prog 51 #[.slice a n c, .int .i64 (x : Int), .int .i64 (t : Int)] w fun e w' => (∃ a' c', e = .returned (.slice a' (n + t) c') ∧ Row64 w' base (.slice a' (n + t) c') (n + t) (xs ++ List.replicate t x)) ∧ Below base w w' := by
  have HH := Lib.hid H
  clear H
  go_enter Tryz.func51, Tryz.ntmps51
  go_wp2_with fail
  go_loopw [0, 7] (fun v vi wr => ∃ (i : Nat) (b : Option Addr) (k : Nat), vi = .int .i64 (i : Int) ∧ i ≤ t ∧ v = .slice b (n + i) k ∧ Row64 wr base (.slice b (n + i) k) (n + i) (xs ++ List.replicate i x) ∧ Below base w wr) (fun _ vi _ => t - (intOf vi).toNat)
  case atStart => exact ⟨0, a, c, rfl, Nat.zero_le _, rfl, by simpa using HH.out, Below.refl _ _⟩
  case round =>
    obtain ⟨i, b, k, rfl, hi, rfl, hr, hb⟩ := hrel
    have HR := Lib.hid hr
    have HB := Lib.hid hb
    have hsz : base ≤ wr.heap.size := Nat.le_trans hs hb.size
    obtain ⟨ni, eni⟩ : ∃ ni, n + i = ni := ⟨_, rfl⟩
    rw [eni] at HR
    have HNI := Lib.hid eni
    rw [eni]
    clear hr hb HH eni
    by_cases hlt : i < t
    · have hli : (i : Int) < (t : Int) := by omega
      have HN : Hid (Below wr.heap.size wr (wr.alloc (.cells #[.int .i64 (x : Int)] 3))) := (Below.refl _ _).alloc (Nat.le_refl _) _
      have hni5 : ni ≤ 100000 := by have := HNI.out; omega
      have hc1 : (wr.alloc (.cells #[.int .i64 (x : Int)] 3)).cell? ⟨wr.heap.size, 0, none⟩ = some (.int .i64 (x : Int)) := by
        have hh : (wr.alloc (.cells #[.int .i64 (x : Int)] 3)).heap[wr.heap.size]? = some (.cells #[.int .i64 (x : Int)] 3 (0, 0)) := by
          show (wr.heap.push _)[wr.heap.size]? = _
          simp
        exact cell_row0 _ _ 0 _ _ _ hh
      have HC1 := Lib.hid hc1
      clear hc1
      have tok : True := trivial
      go_wp2_with (
        have _t := tok
        at_builtin
        refine wpList_append_i1 rfl _ _ rfl base _ ni _ rfl (HR.out.below HN.out) ⟨wr.heap.size, 0, none⟩ x rfl HC1.out (by omega) (Nat.le_trans hsz HN.out.size) ?_
        intro pa pc p2 hr2 hg
        have HR2 := Lib.hid hr2
        have HB2 : Hid (Below base w p2) := (HB.out.trans (HN.out.mono hsz)).trans (ownsRow_kept (HR.out.below HN.out) (Nat.le_trans hsz HN.out.size) hg)
        clear tok hr2 hg
        refine Hid.out ?_)
      refine unhid ?_
      clear HR HB HC1
      go_wp2_with fail
      go_roundw
      case rel =>
        have hni := HNI.out
        refine ⟨i + 1, pa, pc, by go_num, by omega, ?_, ?_, HB2.out⟩
        · rw [show n + (i + 1) = ni + 1 by omega]
        · have := HR2.out
          rw [show n + (i + 1) = ni + 1 by omega, List.replicate_succ', ← List.append_assoc]
          exact this
      case measure => simp [intOf]; go_num
    · have hli : ¬ (i : Int) < (t : Int) := by omega
      have hit : i = t := by omega
      have hnt : n + t = ni := by have := HNI.out; omega
      have HNT := Lib.hid hnt
      have HIT := Lib.hid hit
      clear hit hnt
      go_wp2_with fail
      go_ret
      rw [HNT.out]
      have h2 := HR.out
      rw [HIT.out] at h2
      exact ⟨⟨b, k, rfl, h2⟩, HB.out⟩
/-- Fixed's two rows. -/
def fixedLs : List Nat := List.replicate 144 8 ++ List.replicate 112 9 ++ List.replicate 24 7 ++ List.replicate 8 8
set_option maxRecDepth 100000 in
set_option maxHeartbeats 4000000 in
theorem fixed_ls (w : World) : Calls Tryz.prog 31 #[] w fun e w' => (∃ a c b d, e = .returned (.tuple #[.slice a 288 c, .slice b 32 d]) ∧ Row64 w' w.heap.size (.slice a 288 c) 288 fixedLs ∧ Row64 w' w.heap.size (.slice b 32 d) 32 (List.replicate 32 5)) ∧ Below w.heap.size w w' := by
  go_enter Tryz.func31, Tryz.ntmps31
  go_wp2_with fail
  refine (many_any w w.heap.size none 0 0 [] 8 144 (by omega) (by omega) (Row64.none _ _) (Nat.le_refl _)).mono ?_
  rintro e w1 ⟨⟨a1, c1, rfl, hr1⟩, hb1⟩
  have H1 := Lib.hid hr1
  have B1 := Lib.hid hb1
  clear hr1 hb1
  go_wp2_with fail
  refine (many_any w1 w.heap.size a1 144 c1 _ 9 112 (by omega) (by omega) H1.out B1.out.size).mono ?_
  rintro e w2 ⟨⟨a2, c2, rfl, hr2⟩, hb2⟩
  have H2 := Lib.hid hr2
  have B2 := Lib.hid (B1.out.trans hb2)
  clear hr2 hb2 H1 B1
  go_wp2_with fail
  refine (many_any w2 w.heap.size a2 256 c2 _ 7 24 (by omega) (by omega) H2.out B2.out.size).mono ?_
  rintro e w3 ⟨⟨a3, c3, rfl, hr3⟩, hb3⟩
  have H3 := Lib.hid hr3
  have B3 := Lib.hid (B2.out.trans hb3)
  clear hr3 hb3 H2 B2
  go_wp2_with fail
  refine (many_any w3 w.heap.size a3 280 c3 _ 8 8 (by omega) (by omega) H3.out B3.out.size).mono ?_
  rintro e w4 ⟨⟨a4, c4, rfl, hr4⟩, hb4⟩
  have H4 := Lib.hid hr4
  have B4 := Lib.hid (B3.out.trans hb4)
  clear hr4 hb4 H3 B3
  go_wp2_with fail
  refine (many_any w4 w4.heap.size none 0 0 [] 5 32 (by omega) (by omega) (Row64.none _ _) (Nat.le_refl _)).mono ?_
  rintro e w5 ⟨⟨a5, c5, rfl, hr5⟩, hb5⟩
  have H5 := Lib.hid hr5
  have H6 := Lib.hid (H4.out.below hb5)
  have B5 := Lib.hid (B4.out.trans (hb5.mono B4.out.size))
  have S5 := Lib.hid B4.out.size
  clear hr5 hb5 H4 B4
  go_wp2_with fail
  go_ret2
  refine ⟨⟨a4, c4, a5, c5, rfl, ?_, ?_⟩, B5.out⟩
  · exact H6.out
  · obtain ⟨h1, h2 | ⟨g, cap, cur, e1, e2, e3⟩⟩ := H5.out
    · exact ⟨h1, .inl h2⟩
    · exact ⟨h1, .inr ⟨g, cap, cur, e1, Nat.le_trans S5.out e2, e3⟩⟩
end Go.Proofs.YtglgchjkonjpiaaGreatDoor
/-! The document's unpacking: the next code, as a text. -/
namespace Go.Proofs.YtglgchjkonjpiaaGreatDoor
open Go.RowKit Plain
set_option linter.unusedVariables false
/-- '[]byte(s)' of a text. -/
theorem conv_text (xs : List Int) (hb : ∀ x ∈ xs, 0 ≤ x ∧ x ≤ 255) (w : World) : ∃ c w', (convert 9 22 (.string (strOfNums xs))).run Tryz.prog w = .ok (.slice (some ⟨w.heap.size, 0, none⟩) xs.length c) w' ∧ Below w.heap.size w w' ∧ w'.heap.size = w.heap.size + 1 ∧
    (∀ j, j < xs.length → w'.cell? ⟨w.heap.size, j, none⟩ = some (.int .u8 (xs[j]?.getD 0))) ∧ (∀ j, j < xs.length → w'.frozen? ⟨w.heap.size, j, none⟩ = false) ∧ xs.length ≤ c := by
  have hsz : (strOfNums xs).size = xs.length := strOfNums_size xs
  have hle : xs.length ≤ grownCap w (strOfNums xs).size 0 5 := by
    rw [hsz]; exact grownCap_ge w _ _ _
  refine ⟨_, _, by rw [← hsz]; exact Lib.run_convert_string_bytes w 9 22 5 (strOfNums xs) Tryz.underlying9 Tryz.underlying22 Tryz.underlying5, ?_, Lib.bytesWorld_size _ _ _, ?_, ?_, hle⟩
  · exact ⟨by unfold Lib.bytesWorld World.freeze; split <;> rfl, by unfold Lib.bytesWorld World.freeze; split <;> rfl, by unfold Lib.bytesWorld World.freeze; split <;> rfl, by rw [Lib.bytesWorld_size]; omega, fun i hi => Lib.bytesWorld_at_old w _ _ i hi⟩
  · intro j hj
    rw [Lib.bytesWorld_cell w _ _ j (by rw [hsz]; exact hj), strOfNums_data]
    have := hb _ (List.getElem_mem hj)
    simp [hj]
    omega
  · intro j hj
    simp [World.frozen?, Lib.bytesWorld_at_new, Lib.bytesCells]
    omega
theorem Bytes.set {w : World} {g m : Nat} {xs : List Int} (h : Bytes w (some ⟨g, 0, none⟩) m xs) (k : Nat) (hk : k < m) (v : Int) (hv : 0 ≤ v ∧ v ≤ 255) : Bytes (w.setCell ⟨g, k, none⟩ (.int .u8 v)) (some ⟨g, 0, none⟩) m (xs.set k v) := by
  obtain ⟨h1, h2, h3, h4 | ⟨b, o, he, hc⟩⟩ := h
  · omega
  · simp only [Option.some.injEq, Addr.mk.injEq] at he
    obtain ⟨rfl, rfl, -⟩ := he
    refine ⟨by rw [List.length_set]; exact h1, h2, fun j => ?_, .inr ⟨g, 0, rfl, fun j hj => ?_⟩⟩
    · by_cases hjk : k = j
      · subst hjk; rw [List.getElem?_set_self (by omega)]; exact hv
      · rw [List.getElem?_set_ne hjk]; exact h3 j
    · by_cases hjk : k = j
      · subst hjk
        rw [List.getElem?_set_self (by omega), Nat.zero_add]
        have := hc k hk
        rw [Nat.zero_add] at this
        exact World.cell?_setCell_same (w := w) (a := ⟨g, k, none⟩) (v := .int .u8 v) this
      · rw [List.getElem?_set_ne hjk, ← hc j hj]
        exact World.cell?_setCell_other (w := w) (a := ⟨g, k, none⟩) (b := ⟨g, 0 + j, none⟩) (v := .int .u8 v) (fun e => hjk (by injection e with _ e2; omega))
/-- A code's text, 1 more; of ones alone: itself. -/
def nextGo (s : List Int) : Nat → List Int → List Int
  | 0, _ => s
  | k + 1, ys => if ys[k]?.getD 0 = 48 then ys.set k 49 else nextGo s k (ys.set k 48)
def nextT (s : List Int) : List Int := nextGo s s.length s
theorem nextGo_len (s : List Int) : ∀ (k : Nat) (ys : List Int), ys.length = s.length → (nextGo s k ys).length = s.length
  | 0, _, _ => rfl
  | k + 1, ys, h => by
    rw [nextGo]
    split
    · rw [List.length_set]; exact h
    · exact nextGo_len s k _ (by rw [List.length_set]; exact h)
theorem nextT_len (s : List Int) : (nextT s).length = s.length := nextGo_len s _ _ rfl
theorem nextGo_mem (s : List Int) (hs : ∀ x ∈ s, x = 48 ∨ x = 49) : ∀ (k : Nat) (ys : List Int), (∀ x ∈ ys, x = 48 ∨ x = 49) → ∀ x ∈ nextGo s k ys, x = 48 ∨ x = 49
  | 0, _, _ => hs
  | k + 1, ys, h => by
    rw [nextGo]
    split
    · intro x hx
      rcases List.mem_or_eq_of_mem_set hx with hx | hx
      · exact h x hx
      · exact .inr hx
    · refine nextGo_mem s hs k _ (fun x hx => ?_)
      rcases List.mem_or_eq_of_mem_set hx with hx | hx
      · exact h x hx
      · exact .inl hx
theorem nextT_mem (s : List Int) (hs : ∀ x ∈ s, x = 48 ∨ x = 49) : ∀ x ∈ nextT s, x = 48 ∨ x = 49 := nextGo_mem s hs _ _ hs
set_option maxRecDepth 100000 in
set_option maxHeartbeats 8000000 in
theorem next_any (w : World) (xs : List Int) (hx : ∀ x ∈ xs, x = 48 ∨ x = 49) (hn : xs.length ≤ 1000) :
    Calls Tryz.prog 54 #[.string (strOfNums xs)] w fun e w' => e = .returned (.string (strOfNums (nextT xs))) ∧ Below w.heap.size w w' := by
  have hb : ∀ x ∈ xs, 0 ≤ x ∧ x ≤ 255 := fun x h => by rcases hx x h with h | h <;> omega
  obtain ⟨c, w1, hcv, hb1, hs1, hc1, hf1, hle⟩ := conv_text xs hb w
  have HB0 : Hid (Bytes w1 (some ⟨w.heap.size, 0, none⟩) xs.length xs) := ⟨rfl, by omega, range_of_mem0 hb, .inr ⟨w.heap.size, 0, rfl, fun j hj => by rw [Nat.zero_add]; exact hc1 j hj⟩⟩
  have HF0 := Lib.hid hf1
  have HB1 := Lib.hid hb1
  obtain ⟨n, en⟩ : ∃ n, xs.length = n := ⟨_, rfl⟩
  have HNX : Hid (nextT xs = nextGo xs n xs) := by show _ = _; unfold nextT; rw [en]
  rw [en] at HB0 HF0 hcv hn
  have hle' : n ≤ c := by rw [← en]; exact hle
  have HEN := Lib.hid en
  obtain ⟨s, es⟩ : ∃ s, strOfNums xs = s := ⟨_, rfl⟩
  rw [es] at hcv ⊢
  have HES := Lib.hid es
  generalize hg : w.heap.size = g at *
  have HG := Lib.hid hg
  clear hb hx hc1 hf1 hle hb1 hs1 en es hg
  go_enter Tryz.func54, Tryz.ntmps54
  go_wp2_with fail
  clear hcv
  go_loopw [4] (fun vi wr => ∃ (k : Nat) (ys : List Int), vi = .int .i64 ((k : Int) - 1) ∧ k ≤ n ∧ Bytes wr (some ⟨g, 0, none⟩) n ys ∧ (∀ j, j < n → wr.frozen? ⟨g, j, none⟩ = false) ∧ nextT xs = nextGo xs k ys ∧ Below g w wr) (fun vi _ => (intOf vi + 1).toNat)
  case atStart => exact ⟨n, xs, rfl, Nat.le_refl _, HB0.out, HF0.out, HNX.out, HB1.out⟩
  case round =>
    obtain ⟨k, ys, rfl, hk, hby, hfz, hnx, hbl⟩ := hrel
    have HBY := Lib.hid hby
    have HFZ := Lib.hid hfz
    have HNX2 := Lib.hid hnx
    have HBL := Lib.hid hbl
    clear hby hfz hnx hbl HB0 HF0 HNX HB1
    cases k with
    | zero =>
      have hge : ¬ (0 : Int) ≤ ((0 : Nat) : Int) - 1 := by omega
      have hge2 : ((0 : Nat) : Int) - 1 = -1 := rfl
      have HR : Hid (strOfNums (nextT xs) = s) := by show _ = _; rw [HNX2.out, nextGo, HES.out]
      go_wp2_with fail
      go_ret
      exact ⟨by rw [HR.out]; rfl, HBL.out⟩
    | succ j =>
      have hj1 : ((j + 1 : Nat) : Int) - 1 = (j : Int) := by omega
      rw [hj1]
      have hjn : j < n := by omega
      have hjni : (j : Int) < (n : Int) := by omega
      have q1 : wr.cell? ⟨g, j, none⟩ = some (.int .u8 (ys[j]?.getD 0)) := by
        rcases HBY.out.2.2.2 with h | ⟨b, off, h1, h2⟩
        · omega
        · injection h1 with h1
          injection h1 with e1 e2
          subst e1 e2
          have := h2 j hjn
          rwa [Nat.zero_add] at this
      have f1 := HFZ.out j hjn
      have HST : Hid (nextT xs = if ys[j]?.getD 0 = 48 then ys.set j 49 else nextGo xs j (ys.set j 48)) := by show _ = _; rw [HNX2.out, nextGo]
      have HSB := Lib.hid (fun v hv => HBY.out.set j hjn v hv)
      have HSF : Hid (∀ v, ∀ i, i < n → (wr.setCell ⟨g, j, none⟩ v).frozen? ⟨g, i, none⟩ = false) := fun v i hi => by rw [World.frozen?_setCell]; exact HFZ.out i hi
      have hyr := HBY.out.2.2.1 j
      clear hj1
      generalize ys[j]?.getD 0 = y at *
      by_cases h48 : y = 48
      · subst h48
        have HR : Hid (nextT xs = ys.set j 49) := by show _ = _; rw [HST.out, if_pos rfl]
        have ht := text_run (wr.setCell ⟨g, j, none⟩ (.int .u8 49)) (some ⟨g, 0, none⟩) n c _ (HSB.out 49 (by omega))
        rw [← HR.out] at ht
        go_wp2_with fail
        go_ret
        exact ⟨rfl, HBL.out.setCell (Nat.le_refl _) _⟩
      · have HR : Hid (nextT xs = nextGo xs j (ys.set j 48)) := by show _ = _; rw [HST.out, if_neg h48]
        have hyb : (y == 48) = false := by simp [h48]
        go_wp2_with fail
        go_roundw
        case rel => exact ⟨j, ys.set j 48, by go_num, by omega, HSB.out 48 (by omega), HSF.out _, HR.out, HBL.out.setCell (Nat.le_refl _) _⟩
        case measure => simp [intOf]; try go_num
end Go.Proofs.YtglgchjkonjpiaaGreatDoor
/-! The document's unpacking: codes as texts, and what numbers they are. -/
namespace Go.Proofs.YtglgchjkonjpiaaGreatDoor
open Go.RowKit Plain
set_option linter.unusedVariables false
/-- A number's n bits as text, the highest first. -/
def txt : Nat → Nat → List Int
  | 0, _ => []
  | n + 1, v => txt n (v / 2) ++ [((48 + v % 2 : Nat) : Int)]
theorem txt_len : ∀ n v, (txt n v).length = n
  | 0, _ => rfl
  | n + 1, v => by rw [txt, List.length_append, txt_len n]; rfl
theorem txt_mem : ∀ n v, ∀ x ∈ txt n v, x = 48 ∨ x = 49
  | 0, v, x, h => by cases h
  | n + 1, v, x, h => by
    rw [txt, List.mem_append, List.mem_singleton] at h
    rcases h with h | h
    · exact txt_mem n _ x h
    · omega
theorem txt_inj : ∀ n v u, v < 2 ^ n → u < 2 ^ n → txt n v = txt n u → v = u
  | 0, v, u, hv, hu, _ => by simp at hv hu; omega
  | n + 1, v, u, hv, hu, h => by
    rw [txt, txt] at h
    obtain ⟨h1, h2⟩ := List.append_inj' h rfl
    rw [Nat.pow_succ] at hv hu
    have := txt_inj n _ _ (by omega) (by omega) h1
    have h3 : ((48 + v % 2 : Nat) : Int) = ((48 + u % 2 : Nat) : Int) := by simpa using h2
    omega
theorem txt_take (l v : Nat) : ∀ k, (txt (l + k) v).take l = txt l (v / 2 ^ k)
  | 0 => by rw [Nat.add_zero, List.take_of_length_le (by rw [txt_len]; exact Nat.le_refl _), Nat.pow_zero, Nat.div_one]
  | k + 1 => by
    have ih := txt_take l (v / 2) k
    rw [show l + (k + 1) = (l + k) + 1 by omega, txt, List.take_append_of_le_length (by rw [txt_len]; omega), ih, Nat.pow_succ, Nat.mul_comm, Nat.div_div_eq_div_mul]
/-- The code behind a code of n bits. -/
def nextN (n v : Nat) : Nat := if v + 1 < 2 ^ n then v + 1 else v
theorem nextN_lt {n v : Nat} (h : v < 2 ^ n) : nextN n v < 2 ^ n := by unfold nextN; split <;> assumption
theorem nextGo_txt (s : List Int) : ∀ (k v : Nat) (zs : List Int), v < 2 ^ k → nextGo s k (txt k v ++ zs) = if v + 1 < 2 ^ k then txt k (v + 1) ++ zs else s
  | 0, v, zs, h => by rw [nextGo, if_neg (by simp)]
  | k + 1, v, zs, h => by
    have hl : (txt k (v / 2)).length = k := txt_len _ _
    have hg : (txt (k + 1) v ++ zs)[k]?.getD 0 = ((48 + v % 2 : Nat) : Int) := by
      rw [txt, List.append_assoc, List.getElem?_append_right (by omega), hl, Nat.sub_self]; rfl
    have hs : ∀ y : Int, (txt (k + 1) v ++ zs).set k y = txt k (v / 2) ++ ([y] ++ zs) := fun y => by
      rw [txt, List.append_assoc, List.set_append_right _ _ (by omega), hl, Nat.sub_self]; rfl
    rw [nextGo, hg, hs, hs]
    rw [Nat.pow_succ] at h ⊢
    have hpos : 0 < 2 ^ k := Nat.two_pow_pos k
    by_cases h0 : v % 2 = 0
    · rw [if_pos (by rw [h0]; rfl), if_pos (by omega), txt, show (v + 1) / 2 = v / 2 by omega, show (v + 1) % 2 = 1 by omega, List.append_assoc]; rfl
    · rw [if_neg (by omega), nextGo_txt s k (v / 2) _ (by omega)]
      by_cases h1 : v / 2 + 1 < 2 ^ k
      · rw [if_pos h1, if_pos (by omega), txt, show (v + 1) / 2 = v / 2 + 1 by omega, show (v + 1) % 2 = 0 by omega, List.append_assoc]; rfl
      · rw [if_neg h1, if_neg (by omega)]
theorem nextT_txt (n v : Nat) (h : v < 2 ^ n) : nextT (txt n v) = txt n (nextN n v) := by
  unfold nextT nextN
  have := nextGo_txt (txt n v) n v [] h
  rw [List.append_nil, List.append_nil] at this
  rw [txt_len, this]
  split <;> rfl
/-! ### As strings -/
def Sx (n v : Nat) : ByteArray := strOfNums (txt n v)
theorem sx_size (n v : Nat) : (Sx n v).size = n := by unfold Sx; rw [strOfNums_size, txt_len]
theorem nums_snoc (xs : List Int) (y : Int) (b : UInt8) (h : UInt8.ofNat y.toNat = b) : strOfNums xs ++ (⟨#[b]⟩ : ByteArray) = strOfNums (xs ++ [y]) := by
  apply ByteArray.ext
  apply Array.toList_inj.1
  subst h
  simp [strOfNums]
theorem sx_zero (n v : Nat) : Sx n v ++ (⟨#[48]⟩ : ByteArray) = Sx (n + 1) (2 * v) := by
  unfold Sx
  rw [nums_snoc _ 48 48 rfl, txt, show 2 * v / 2 = v by omega, show 2 * v % 2 = 0 by omega]; rfl
theorem sx_one (n v : Nat) : Sx n v ++ (⟨#[49]⟩ : ByteArray) = Sx (n + 1) (2 * v + 1) := by
  unfold Sx
  rw [nums_snoc _ 49 49 rfl, txt, show (2 * v + 1) / 2 = v by omega, show (2 * v + 1) % 2 = 1 by omega]; rfl
theorem nums_inj {xs ys : List Int} (hx : ∀ x ∈ xs, 0 ≤ x ∧ x ≤ 255) (hy : ∀ x ∈ ys, 0 ≤ x ∧ x ≤ 255) (h : strOfNums xs = strOfNums ys) : xs = ys := by
  have h1 : xs.map (fun n => UInt8.ofNat n.toNat) = ys.map (fun n => UInt8.ofNat n.toNat) := by
    have := congrArg (fun b : ByteArray => b.data.toList) h
    simpa [strOfNums_data] using this
  have back : ∀ zs : List Int, (∀ x ∈ zs, 0 ≤ x ∧ x ≤ 255) → (zs.map (fun n => UInt8.ofNat n.toNat)).map (fun b => (b.toNat : Int)) = zs := fun zs hz => by
    rw [List.map_map]
    conv => rhs; rw [← List.map_id zs]
    apply List.map_congr_left
    intro a ha
    have := hz a ha
    simp
    omega
  rw [← back xs hx, h1, back ys hy]
theorem sx_eq {n v m u : Nat} (hv : v < 2 ^ n) (hu : u < 2 ^ m) (h : Sx n v = Sx m u) : n = m ∧ v = u := by
  have hb : ∀ k t, ∀ x ∈ txt k t, 0 ≤ x ∧ x ≤ 255 := fun k t x hx => by rcases txt_mem k t x hx with h | h <;> omega
  have h1 := nums_inj (hb n v) (hb m u) h
  have h2 : n = m := by rw [← txt_len n v, h1, txt_len]
  subst h2
  exact ⟨rfl, txt_inj n v u hv hu h1⟩
theorem loopN' (bs : ByteArray) : ∀ (n i : Nat) (r : List UInt8), bs.size - i = n → ByteArray.toList.loop bs i r = r.reverse ++ bs.data.toList.drop i
  | 0, i, r, h => by
    rw [ByteArray.toList.loop, if_neg (by omega)]
    have : bs.data.toList.length ≤ i := by show bs.size ≤ i; omega
    rw [List.drop_of_length_le this, List.append_nil]
  | n + 1, i, r, h => by
    have hi : i < bs.data.toList.length := by show i < bs.size; omega
    rw [ByteArray.toList.loop, if_pos (by omega), loopN' bs n (i + 1) _ (by omega), List.drop_eq_getElem_cons hi]
    have hg : bs.get! i = bs.data.toList[i] := by
      show bs.data[i]! = _
      have : i < bs.data.size := by simpa using hi
      rw [getElem!_pos bs.data i this]
      simp
    rw [hg]
    simp
theorem toList_inj' (a b : ByteArray) (h : a.toList = b.toList) : a = b := by
  unfold ByteArray.toList at h
  rw [loopN' a _ 0 [] rfl, loopN' b _ 0 [] rfl] at h
  apply ByteArray.ext
  apply Array.toList_inj.1
  simpa using h
theorem sx_ne {n v m u : Nat} (hv : v < 2 ^ n) (hu : u < 2 ^ m) (h : ¬ (n = m ∧ v = u)) : ¬ (Sx n v).toList = (Sx m u).toList := fun e => h (sx_eq hv hu (toList_inj' _ _ e))
end Go.Proofs.YtglgchjkonjpiaaGreatDoor
