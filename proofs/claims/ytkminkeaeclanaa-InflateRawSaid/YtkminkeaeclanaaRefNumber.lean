/- The document's unpacking: a number of some bits. -/
import Derived.Test.YtkminkeaeclanaaRefBit
namespace Go.Proofs.Ytkminkeaeclanaa
open Go.RowKit Plain
set_option linter.unusedVariables false
/-- What a number's reading is: the number, or the bits end and the value is any. -/
def NumQ (w : World) (Sb : Nat) (ba : Option Addr) (bn bc p n : Nat) (ov : Value) (M : Int) (N : Nat) (e : Ending) (w' : World) : Prop :=
  (∃ x q, num N (8 * bn) p n = .ok (x, q) ∧ e = .returned (.int .i64 (x : Int)) ∧ RS w' Sb ba bn bc q ov M 0 ∧ OnlyAt Sb w w') ∨
    (num N (8 * bn) p n = .error 3 ∧ ∃ x q : Nat, x < 2 ^ n ∧ q ≤ 8 * bn ∧ e = .returned (.int .i64 (x : Int)) ∧ RS w' Sb ba bn bc q ov M 3 ∧ OnlyAt Sb w w')
set_option maxRecDepth 100000 in
set_option maxHeartbeats 8000000 in
/-- The bits of a number, one after the other; k: those that are read, bad: they ended. -/
theorem rnumber_any (w : World) (Sb : Nat) (ba : Option Addr) (bn bc p n : Nat) (ov : Value) (M : Int) (bs : List Int) (h : RS w Sb ba bn bc p ov M 0) (HS : SrcR w Sb ba bn bc bs) (hn : n ≤ 16) (hp : p ≤ 8 * bn) :
    Calls Try.prog 20 #[.pointer (some ⟨Sb, 0, none⟩), .int .i64 (n : Int)] w (NumQ w Sb ba bn bc p n ov M (streamN bs)) := by
  have HR := Lib.hid h
  have HSS := Lib.hid HS
  have hbn := HS.2.1
  generalize hN : streamN bs = N at *
  have HN := Lib.hid hN
  clear h HS hN
  go_enter Try.func20, Try.ntmps20
  go_wp2_with fail
  go_loopw [5, 6, 7] (fun vk vo vi wr => ∃ (i x q : Nat) (bad : Nat), vi = .int .i64 (i : Int) ∧ i ≤ n ∧ vo = .int .i64 ((2 ^ i : Nat) : Int) ∧ vk = .int .i64 (x : Int) ∧ x < 2 ^ i ∧ q ≤ 8 * bn ∧ RS wr Sb ba bn bc q ov M bad ∧ OnlyAt Sb w wr ∧
      ((bad = 0 ∧ q = p + i ∧ x = N / 2 ^ p % 2 ^ i) ∨ (bad = 3 ∧ 8 * bn < p + i))) (fun _ _ vi _ => n - (intOf vi).toNat)
  case atStart => exact ⟨0, 0, p, 0, rfl, Nat.zero_le _, rfl, rfl, by simp, hp, HR.out, OnlyAt.refl _ _, .inl ⟨rfl, rfl, by rw [Nat.pow_zero, Nat.mod_one]⟩⟩
  case round =>
    obtain ⟨i, x, q, bad, rfl, hi, rfl, rfl, hx, hq, hrs, ho, hst⟩ := hrel
    have HRS := Lib.hid hrs
    have HO := Lib.hid ho
    have HST := Lib.hid hst
    have HX := Lib.hid hx
    have hp2 : 2 ^ i ≤ 65536 := by have := Nat.pow_le_pow_right (n := 2) (by omega) (show i ≤ 16 by omega); simpa using this
    have HP2 : Hid (2 ^ (i + 1) = 2 * 2 ^ i) := by show _ = _; rw [Nat.pow_succ, Nat.mul_comm]
    obtain ⟨o, ho2⟩ : ∃ o, 2 ^ i = o := ⟨_, rfl⟩
    have HOO := Lib.hid ho2
    rw [ho2] at hp2 HP2 HX
    have hx6 : x ≤ 65536 := by have := HX.out; omega
    rw [ho2]
    clear hrs ho hst hx ho2 HR
    by_cases hlt : i < n
    · have hli : (i : Int) < (n : Int) := by omega
      rcases HST.out with ⟨rfl, hqe, hxe⟩ | ⟨rfl, hbe⟩
      · by_cases hend : q = 8 * bn
        · have hcall := bit_end wr Sb ba bn bc q ov M HRS.out hbn hend
          have HQE := Lib.hid hqe
          have HQ8 := Lib.hid hend
          clear hqe hxe hend
          go_wp2_with fail
          refine hcall.mono ?_
          rintro e w2 ⟨rfl, hr2, ho2⟩
          have HR2 := Lib.hid hr2
          have HO2 := Lib.hid (HO.out.trans ho2)
          clear hr2 ho2 hcall
          go_wp2_with fail
          go_roundw
          case rel => exact ⟨i + 1, x, q, 3, by go_num, by omega, by rw [HP2.out]; go_num, by go_num, by rw [HP2.out]; have := HX.out; omega, hq, HR2.out, HO2.out, .inr ⟨rfl, by have := HQE.out; have := HQ8.out; omega⟩⟩
          case measure => simp [intOf]; go_num
        · have hcall := bit_good wr Sb ba bn bc q ov M bs HRS.out (HSS.out.only HO.out) (by omega)
          have HB2 : Hid (streamN bs / 2 ^ q % 2 < 2) := Nat.mod_lt _ (by omega)
          have HNX : Hid (N / 2 ^ p % 2 ^ (i + 1) = x + o * (streamN bs / 2 ^ q % 2)) := by
            show _ = _
            rw [HN.out, bits_split, ← hxe, HOO.out, hqe]
          generalize streamN bs / 2 ^ q % 2 = bb at *
          have HQE := Lib.hid hqe
          have hb2 : bb < 2 := HB2.out
          have hob : (o : Int) * (bb : Int) = ((o * bb : Nat) : Int) := by simp
          have hob2 : o * bb ≤ 65536 := by
            have : bb = 0 ∨ bb = 1 := by omega
            rcases this with rfl | rfl <;> omega
          have HOB : Hid (o * bb + x < 2 * o) := by
            have h1 := HX.out
            have : bb = 0 ∨ bb = 1 := by omega
            show _ < _
            rcases this with rfl | rfl <;> omega
          clear hqe hxe
          generalize o * bb = ob at *
          go_wp2_with fail
          refine hcall.mono ?_
          rintro e w2 ⟨rfl, hr2, ho2⟩
          have HR2 := Lib.hid hr2
          have HO2 := Lib.hid (HO.out.trans ho2)
          clear hr2 ho2 hcall
          go_wp2_with fail
          go_roundw
          case rel => exact ⟨i + 1, x + ob, q + 1, 0, by go_num, by omega, by rw [HP2.out]; go_num, by go_num, by rw [HP2.out]; have := HOB.out; omega, by omega, HR2.out, HO2.out, .inl ⟨rfl, by have := HQE.out; omega, HNX.out.symm⟩⟩
          case measure => simp [intOf]; go_num
      · have hcall := bit_bad wr Sb ba bn bc q ov M 3 HRS.out (by omega) hbn hq
        have HBE := Lib.hid hbe
        clear hbe
        go_wp2_with fail
        refine hcall.mono ?_
        rintro e w2 ⟨rfl, hr2, ho2⟩
        have HR2 := Lib.hid hr2
        have HO2 := Lib.hid (HO.out.trans ho2)
        clear hr2 ho2 hcall
        go_wp2_with fail
        go_roundw
        case rel => exact ⟨i + 1, x, q, 3, by go_num, by omega, by rw [HP2.out]; go_num, by go_num, by rw [HP2.out]; have := HX.out; omega, hq, HR2.out, HO2.out, .inr ⟨rfl, by have := HBE.out; omega⟩⟩
        case measure => simp [intOf]; go_num
    · have hin : i = n := by omega
      subst hin
      have hli : ¬ (i : Int) < (i : Int) := by omega
      have HRES : Hid (∀ e, e = Ending.returned (.int .i64 (x : Int)) → NumQ w Sb ba bn bc p i ov M N e wr) := by
        intro e he
        rcases HST.out with ⟨rfl, hqe, hxe⟩ | ⟨rfl, hbe⟩
        · refine .inl ⟨x, q, ?_, he, HRS.out, HO.out⟩
          unfold num
          rw [if_pos (by omega), ← hxe, hqe]
        · refine .inr ⟨?_, x, q, by rw [HOO.out]; exact HX.out, hq, he, HRS.out, HO.out⟩
          unfold num
          rw [if_neg (by omega)]
      go_wp2_with fail
      go_ret
      exact HRES.out _ rfl
end Go.Proofs.Ytkminkeaeclanaa
