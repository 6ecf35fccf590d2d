/- Codes with the highest bit first; the signs of the codes that are given: the walks. -/
import Derived.Test.YtkminkeaeclanaaCode
namespace Go.Proofs.Ytkminkeaeclanaa
open Go.RowKit Plain
set_option linter.unusedVariables false
theorem rev7 : ∀ x : Nat, x < 128 → rev 8 x / 2 = rev 7 x ∧ rev 8 x ≤ 255 ∧ rev 7 x ≤ 127 := by decide +kernel
theorem rev5 : ∀ x : Nat, x < 32 → rev 8 x / 8 = rev 5 x ∧ rev 8 x ≤ 255 ∧ rev 5 x ≤ 31 := by decide +kernel
set_option maxRecDepth 100000 in
set_option maxHeartbeats 4000000 in
theorem code7_any {w0 : World} {Ob : Nat} {ba : Option Addr} {bn bc N most : Nat} {bs : List Int} (HS : SrcB w0 ba bn bc N most bs) (w : World) (p : Nat) (mv : Value) (made : List Int) (H : OutL 8 w0 Ob ba bn bc N most w p mv made) :
    Calls Try.prog 45 #[.pointer (some ⟨Ob, 0, none⟩), .int .i64 7] w (Got w0 Ob ba bn bc N most w mv made (codeN N (8 * bn) p 7)) := by
  have hnum := number_any HS w p mv made H 7 (by omega)
  clear HS H
  go_enter Try.func45, Try.ntmps45
  go_wp2_with fail
  refine hnum.mono ?_
  intro e w2 hgot
  obtain ⟨x, q, hr, rfl, ht, ho⟩ | ⟨k, hr, rfl, ht⟩ := hgot.lift
  · have hlt := (num_ok hr).1
    have HC : Hid (codeN N (8 * bn) p 7 = .ok (rev 7 x, q)) := by show _ = _; unfold codeN; rw [hr]
    have HT := Lib.hid ht
    have HO := Lib.hid ho
    have hx7 : x < 128 := hlt
    obtain ⟨r1, r2, r3⟩ := rev7 x hx7
    have hx8 : IntKind.u8.wrap (x : Int) = (x : Int) := by rw [IntKind.wrap_u8]; omega
    have hrv := reverse_any x (by omega) w2
    obtain ⟨y, hy⟩ : ∃ y, rev 8 x = y := ⟨_, rfl⟩
    obtain ⟨z, hz⟩ : ∃ z, rev 7 x = z := ⟨_, rfl⟩
    rw [hy] at r1 r2 hrv
    rw [hz] at r1 r3 HC
    have hdv : (y : Int) / 2 = (z : Int) := by omega
    clear hnum hgot hr ht ho hy hz hlt r1
    go_wp2_with fail
    refine hrv.mono ?_
    rintro e w3 ⟨rfl, rfl⟩
    clear hrv
    go_wp2_with fail
    go_ret
    exact ⟨HT.out, .inl ⟨z, q, HC.out, rfl, HO.out⟩⟩
  · have HC : Hid (codeN N (8 * bn) p 7 = .error k) := by show _ = _; unfold codeN; rw [hr]
    have HT := Lib.hid ht
    clear hnum hgot hr ht
    go_wp2_with fail
    exact ⟨rfl, HT.out, .inr ⟨k, HC.out, rfl⟩⟩
set_option maxRecDepth 100000 in
set_option maxHeartbeats 4000000 in
theorem code5_any {w0 : World} {Ob : Nat} {ba : Option Addr} {bn bc N most : Nat} {bs : List Int} (HS : SrcB w0 ba bn bc N most bs) (w : World) (p : Nat) (mv : Value) (made : List Int) (H : OutL 8 w0 Ob ba bn bc N most w p mv made) :
    Calls Try.prog 45 #[.pointer (some ⟨Ob, 0, none⟩), .int .i64 5] w (Got w0 Ob ba bn bc N most w mv made (codeN N (8 * bn) p 5)) := by
  have hnum := number_any HS w p mv made H 5 (by omega)
  clear HS H
  go_enter Try.func45, Try.ntmps45
  go_wp2_with fail
  refine hnum.mono ?_
  intro e w2 hgot
  obtain ⟨x, q, hr, rfl, ht, ho⟩ | ⟨k, hr, rfl, ht⟩ := hgot.lift
  · have hlt := (num_ok hr).1
    have HC : Hid (codeN N (8 * bn) p 5 = .ok (rev 5 x, q)) := by show _ = _; unfold codeN; rw [hr]
    have HT := Lib.hid ht
    have HO := Lib.hid ho
    have hx7 : x < 32 := hlt
    obtain ⟨r1, r2, r3⟩ := rev5 x hx7
    have hx8 : IntKind.u8.wrap (x : Int) = (x : Int) := by rw [IntKind.wrap_u8]; omega
    have hrv := reverse_any x (by omega) w2
    obtain ⟨y, hy⟩ : ∃ y, rev 8 x = y := ⟨_, rfl⟩
    obtain ⟨z, hz⟩ : ∃ z, rev 5 x = z := ⟨_, rfl⟩
    rw [hy] at r1 r2 hrv
    rw [hz] at r1 r3 HC
    have hdv : (y : Int) / 8 = (z : Int) := by omega
    clear hnum hgot hr ht ho hy hz hlt r1
    go_wp2_with fail
    refine hrv.mono ?_
    rintro e w3 ⟨rfl, rfl⟩
    clear hrv
    go_wp2_with fail
    go_ret
    exact ⟨HT.out, .inl ⟨z, q, HC.out, rfl, HO.out⟩⟩
  · have HC : Hid (codeN N (8 * bn) p 5 = .error k) := by show _ = _; unfold codeN; rw [hr]
    have HT := Lib.hid ht
    clear hnum hgot hr ht
    go_wp2_with fail
    exact ⟨rfl, HT.out, .inr ⟨k, HC.out, rfl⟩⟩
set_option maxRecDepth 100000 in
set_option maxHeartbeats 4000000 in
theorem fixedDist_any {w0 : World} {Ob : Nat} {ba : Option Addr} {bn bc N most : Nat} {bs : List Int} (HS : SrcB w0 ba bn bc N most bs) (w : World) (p : Nat) (mv : Value) (made : List Int) (H : OutL 8 w0 Ob ba bn bc N most w p mv made) :
    Calls Try.prog 31 #[.pointer (some ⟨Ob, 0, none⟩)] w (Got w0 Ob ba bn bc N most w mv made (fixedDistN N (8 * bn) p)) := by
  have hnum := code5_any HS w p mv made H
  clear HS H
  go_enter Try.func31, Try.ntmps31
  go_wp2_with fail
  refine hnum.mono ?_
  intro e w2 hgot
  obtain ⟨x, q, hr, rfl, ht, ho⟩ | ⟨k, hr, rfl, ht⟩ := hgot.lift
  · have HG := Lib.hid hgot
    clear hnum hgot hr ht ho
    go_wp2_with fail
    go_ret
    exact HG.out
  · have HG := Lib.hid hgot
    clear hnum hgot hr ht
    go_wp2_with fail
    exact ⟨rfl, HG.out⟩
theorem or_bit (x b : Nat) (hx : x ≤ 100000) (hb : b < 2) : bits .or .i64 ((x : Int) * 2) (b : Int) = ((2 * x + b : Nat) : Int) := by
  show IntKind.i64.wrap ((BitVec.ofInt 64 _ ||| BitVec.ofInt 64 _ : BitVec 64).toNat : Int) = _
  rw [BitVec.toNat_or, BitVec.toNat_ofInt, BitVec.toNat_ofInt]
  have e1 : (((x : Int) * 2) % ((2 ^ 64 : Nat) : Int)).toNat = x <<< 1 := by rw [Nat.shiftLeft_eq]; omega
  have e2 : (((b : Nat) : Int) % ((2 ^ 64 : Nat) : Int)).toNat = b := by omega
  rw [e1, e2, ← Nat.shiftLeft_add_eq_or_of_lt (by omega), Nat.shiftLeft_eq, IntKind.wrap_i64]
  omega
set_option maxRecDepth 100000 in
set_option maxHeartbeats 4000000 in
theorem fixedSign_any {w0 : World} {Ob : Nat} {ba : Option Addr} {bn bc N most : Nat} {bs : List Int} (HS : SrcB w0 ba bn bc N most bs) (w : World) (p : Nat) (mv : Value) (made : List Int) (H : OutL 8 w0 Ob ba bn bc N most w p mv made) :
    Calls Try.prog 30 #[.pointer (some ⟨Ob, 0, none⟩)] w (Got w0 Ob ba bn bc N most w mv made (fixedSignN N (8 * bn) p)) := by
  have hnum := code7_any HS w p mv made H
  have HSS := Lib.hid HS
  clear HS H
  go_enter Try.func30, Try.ntmps30
  go_wp2_with fail
  refine hnum.mono ?_
  intro e w2 hgot
  obtain ⟨x, q, hr, rfl, ht, ho⟩ | ⟨k, hr, rfl, ht⟩ := hgot.lift
  · have hx7 : x ≤ 127 := by
      unfold codeN at hr
      cases hn : num N (8 * bn) p 7 with
      | error e => rw [hn] at hr; cases hr
      | ok v =>
        obtain ⟨y, z⟩ := v
        rw [hn] at hr
        injection hr with hr
        injection hr with h1 h2
        have := (rev7 y (num_ok hn).1).2.2
        omega
    have HR := Lib.hid hr
    have HT := Lib.hid ht
    have HO := Lib.hid ho
    clear hnum hgot hr ht ho
    by_cases h23 : x ≤ 23
    · have h23i : (x : Int) ≤ 23 := by omega
      go_wp2_with fail
      go_ret
      exact ⟨HT.out, .inl ⟨256 + x, q, by unfold fixedSignN; rw [HR.out]; simp only []; rw [if_pos h23], rfl, HO.out⟩⟩
    · have h23i : ¬ (x : Int) ≤ 23 := by omega
      have hone := one_any HSS.out w2 q mv made HO.out
      go_wp2_with fail
      refine hone.mono ?_
      intro e w3 hgot
      obtain ⟨b, r, hr, rfl, ht, ho⟩ | ⟨k, hr, rfl, ht⟩ := hgot.lift
      · have hb2 : b < 2 := (num_ok hr).1
        have hor := or_bit x b (by omega) hb2
        have HR2 := Lib.hid hr
        have HT2 := Lib.hid (HT.out.trans ht)
        have HO2 := Lib.hid ho
        clear hone hgot hr ht ho
        obtain ⟨y, hy⟩ : ∃ y, 2 * x + b = y := ⟨_, rfl⟩
        rw [hy] at hor
        have HY := Lib.hid hy
        have hy8 : y ≤ 255 := by omega
        have hy9 : 48 ≤ y := by omega
        clear hy
        by_cases h191 : y ≤ 191
        · have h191i : (y : Int) ≤ 191 := by omega
          go_wp2_with fail
          go_ret
          refine ⟨HT2.out, .inl ⟨y - 48, r, by unfold fixedSignN; rw [HR.out]; simp only []; rw [if_neg h23, HR2.out]; simp only []; rw [HY.out, if_pos h191], ?_, HO2.out⟩⟩
          exact congrArg (fun z => Ending.returned (.int .i64 z)) (by omega)
        · have h191i : ¬ (y : Int) ≤ 191 := by omega
          by_cases h199 : y ≤ 199
          · have h199i : (y : Int) ≤ 199 := by omega
            go_wp2_with fail
            go_ret
            refine ⟨HT2.out, .inl ⟨280 + y - 192, r, by unfold fixedSignN; rw [HR.out]; simp only []; rw [if_neg h23, HR2.out]; simp only []; rw [HY.out, if_neg h191, if_pos h199], ?_, HO2.out⟩⟩
            exact congrArg (fun z => Ending.returned (.int .i64 z)) (by omega)
          · have h199i : ¬ (y : Int) ≤ 199 := by omega
            have hone := one_any HSS.out w3 r mv made HO2.out
            go_wp2_with fail
            refine hone.mono ?_
            intro e w4 hgot
            obtain ⟨c, s, hr, rfl, ht, ho⟩ | ⟨k, hr, rfl, ht⟩ := hgot.lift
            · have hc2 : c < 2 := (num_ok hr).1
              have hor2 := or_bit y c (by omega) hc2
              have HR3 := Lib.hid hr
              have HT3 := Lib.hid (HT2.out.trans ht)
              have HO3 := Lib.hid ho
              clear hone hgot hr ht ho hor
              obtain ⟨z, hz⟩ : ∃ z, 2 * y + c = z := ⟨_, rfl⟩
              rw [hz] at hor2
              have HZ := Lib.hid hz
              have hz8 : z ≤ 511 := by omega
              have hz9 : 400 ≤ z := by omega
              clear hz
              go_wp2_with fail
              go_ret
              refine ⟨HT3.out, .inl ⟨144 + z - 400, s, by unfold fixedSignN; rw [HR.out]; simp only []; rw [if_neg h23, HR2.out]; simp only []; rw [HY.out, if_neg h191, if_neg h199, HR3.out]; simp only []; rw [HZ.out], ?_, HO3.out⟩⟩
              exact congrArg (fun z => Ending.returned (.int .i64 z)) (by omega)
            · have HR3 := Lib.hid hr
              have HT3 := Lib.hid (HT2.out.trans ht)
              clear hone hgot hr ht hor
              go_wp2_with fail
              exact ⟨rfl, HT3.out, .inr ⟨k, by unfold fixedSignN; rw [HR.out]; simp only []; rw [if_neg h23, HR2.out]; simp only []; rw [HY.out, if_neg h191, if_neg h199, HR3.out], rfl⟩⟩
      · have HR2 := Lib.hid hr
        have HT2 := Lib.hid (HT.out.trans ht)
        clear hone hgot hr ht
        go_wp2_with fail
        exact ⟨rfl, HT2.out, .inr ⟨k, by unfold fixedSignN; rw [HR.out]; simp only []; rw [if_neg h23, HR2.out], rfl⟩⟩
  · have HR := Lib.hid hr
    have HT := Lib.hid ht
    clear hnum hgot hr ht
    go_wp2_with fail
    exact ⟨rfl, HT.out, .inr ⟨k, by unfold fixedSignN; rw [HR.out], rfl⟩⟩
end Go.Proofs.Ytkminkeaeclanaa
