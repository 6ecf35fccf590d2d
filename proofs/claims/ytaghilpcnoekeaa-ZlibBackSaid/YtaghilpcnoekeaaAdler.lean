/- Adler's sum: the program's and the document's. -/
import Derived.Test.YtaghilpcnoekeaaRows
import Derived.Outline
import Derived.Test.YtaghilpcnoekeaaMath
import Derived.Test.YtaghilpcnoekeaaBytes
import Derived.WalkKit
import Derived.ProofKit
import Derived.OpenShut
import Derived.Below
import Derived.LoopN
import Derived.Lib.SmallJoins
namespace Go.Proofs.Ytaghilpcnoekeaa
open Go.RowKit Plain
set_option linter.unusedVariables false

theorem adlerMore_some (s : Int) (b off len cap : Nat) (zs : List Int) (w : World) (hs0 : 0 ≤ s) (hs1 : s ≤ 4294967295) (hl : len ≤ 9223372036854775807) (hz : zs.length = len)
    (hc : ∀ j, j < len → w.cell? ⟨b, off + j, none⟩ = some (.int .u8 (zs[j]?.getD 0))) (hr : ∀ j : Nat, 0 ≤ zs[j]?.getD 0 ∧ zs[j]?.getD 0 ≤ 255) :
    Calls Try.prog 54 #[.int .u32 s, .slice (some ⟨b, off, none⟩) len cap] w fun e w' => e = .returned (.int .u32 (ad s zs)) ∧ w = w' := by
  have HZ : Hid (zs.length = len) := hz
  clear hz
  go_enter Try.func54, Try.ntmps54
  go_wp2
  go_loop [5, 6, 15] (fun lo hi i => ∃ (k : Nat) (p : Int × Int), k ≤ len ∧ i = .int .i64 k ∧ lo = .int .u32 p.1 ∧ hi = .int .u32 p.2 ∧ p = adRun (s % 65536, s / 65536) (zs.take k)) (fun _ _ i => len - (intOf i).toNat)
  case atStart => exact ⟨0, _, Nat.zero_le _, rfl, by rw [and_low s hs0 hs1]; rfl, rfl, rfl⟩
  case round =>
    obtain ⟨k, p, hk, rfl, rfl, rfl, hp⟩ := hrel
    have hL : Low p := by rw [hp]; exact low_run _ (low_start s hs0 hs1)
    obtain ⟨x, y⟩ := p
    obtain ⟨hx0, hx1, hy0, hy1⟩ := hL
    simp only at hx0 hx1 hy0 hy1
    have HP : Hid ((x, y) = adRun (s % 65536, s / 65536) (zs.take k)) := hp
    clear hp
    have hrk := hr k
    by_cases hlt : k < len
    · have hcell := hc k hlt
      clear hr hc
      go_wp2
      go_round
      case rel => exact ⟨k + 1, adStep (x, y) (zs[k]?.getD 0), by omega, by go_num, rfl, rfl, by rw [take_succ_getD zs k (by rw [HZ.out]; exact hlt), adRun_snoc, ← HP.out]⟩
      case measure => simp [intOf]; omega
    · go_wp2
      go_ret
      refine ⟨?_, rfl⟩
      rw [or_high x y hx0 hx1 hy0 hy1]
      unfold ad
      rw [show adRun (s % 65536, s / 65536) zs = (x, y) by rw [HP.out, List.take_of_length_le (by rw [HZ.out]; omega)]]
      rfl
theorem adlerMore_none (s : Int) (a : Option Addr) (cap : Nat) (w : World) (hs0 : 0 ≤ s) (hs1 : s ≤ 4294967295) :
    Calls Try.prog 54 #[.int .u32 s, .slice a 0 cap] w fun e w' => e = .returned (.int .u32 (ad s [])) ∧ w = w' := by
  go_enter Try.func54, Try.ntmps54
  go_wp2
  refine wp_loop_rounds 1 ?_
  rw [rounds_succ]
  go_wp2
  go_ret
  refine ⟨?_, rfl⟩
  rw [and_low s hs0 hs1, or_high (s % 65536) (s / 65536) (by omega) (by omega) (by omega) (by omega)]
  rfl
theorem adlerMore_any (s : Int) (a : Option Addr) (len cap : Nat) (zs : List Int) (w : World) (hs0 : 0 ≤ s) (hs1 : s ≤ 4294967295) (H : Bytes w a len zs) :
    Calls Try.prog 54 #[.int .u32 s, .slice a len cap] w fun e w' => e = .returned (.int .u32 (ad s zs)) ∧ w = w' := by
  obtain ⟨hz, hl, hr, rfl | ⟨b, off, rfl, hc⟩⟩ := H
  · obtain rfl : zs = [] := List.eq_nil_of_length_eq_zero hz
    exact adlerMore_none s a cap w hs0 hs1
  · exact adlerMore_some s b off len cap zs w hs0 hs1 hl hz hc hr
theorem adler_any (a : Option Addr) (len cap : Nat) (zs : List Int) (w : World) (H : Bytes w a len zs) :
    Calls Try.prog 27 #[.slice a len cap] w fun e w' => e = .returned (.int .u32 (ad 1 zs)) ∧ w = w' := by
  have HH : Hid (Bytes w a len zs) := H
  clear H
  go_enter Try.func27, Try.ntmps27
  go_wp2_with fail
  refine (adlerMore_any 1 a len cap zs w (by omega) (by omega) HH.out).mono ?_
  rintro e w' ⟨rfl, rfl⟩
  go_wp2_with fail
  go_ret
  exact ⟨rfl, rfl⟩

/-! ### The document's Adler -/
theorem refAdler_some (s : Int) (b off len cap : Nat) (zs : List Int) (w : World) (hs0 : 0 ≤ s) (hs1 : s ≤ 4294967295) (hl : len ≤ 9223372036854775807) (hz : zs.length = len)
    (hc : ∀ j, j < len → w.cell? ⟨b, off + j, none⟩ = some (.int .u8 (zs[j]?.getD 0))) (hr : ∀ j : Nat, 0 ≤ zs[j]?.getD 0 ∧ zs[j]?.getD 0 ≤ 255) :
    Calls Try.prog 21 #[.int .u32 s, .slice (some ⟨b, off, none⟩) len cap] w fun e w' => e = .returned (.int .u32 (ad s zs)) ∧ w = w' := by
  have HZ : Hid (zs.length = len) := hz
  clear hz
  go_enter Try.func21, Try.ntmps21
  go_wp2
  go_loop [5, 6, 7] (fun lo hi i => ∃ (k : Nat) (p : Int × Int), k ≤ len ∧ i = .int .i64 k ∧ lo = .int .i64 p.1 ∧ hi = .int .i64 p.2 ∧ p = adRun (s % 65536, s / 65536) (zs.take k)) (fun _ _ i => len - (intOf i).toNat)
  case atStart => exact ⟨0, _, Nat.zero_le _, rfl, rfl, rfl, rfl⟩
  case round =>
    obtain ⟨k, p, hk, rfl, rfl, rfl, hp⟩ := hrel
    have hL : Low p := by rw [hp]; exact low_run _ (low_start s hs0 hs1)
    obtain ⟨x, y⟩ := p
    obtain ⟨hx0, hx1, hy0, hy1⟩ := hL
    simp only at hx0 hx1 hy0 hy1
    have HP : Hid ((x, y) = adRun (s % 65536, s / 65536) (zs.take k)) := hp
    clear hp
    have hrk := hr k
    by_cases hlt : k < len
    · have hcell := hc k hlt
      clear hr hc
      go_wp2
      go_round
      case rel => exact ⟨k + 1, adStep (x, y) (zs[k]?.getD 0), by omega, by go_num, rfl, by show Value.int _ _ = Value.int _ _; unfold adStep; congr 2; simp only; omega, by rw [take_succ_getD zs k (by rw [HZ.out]; exact hlt), adRun_snoc, ← HP.out]⟩
      case measure => simp [intOf]; omega
    · go_wp2
      go_ret
      refine ⟨?_, rfl⟩
      unfold ad
      rw [show adRun (s % 65536, s / 65536) zs = (x, y) by rw [HP.out, List.take_of_length_le (by rw [HZ.out]; omega)]]
      exact ret_u32 (show 65536 * y + x = y * 65536 + x by omega)
theorem refAdler_none (s : Int) (a : Option Addr) (cap : Nat) (w : World) (hs0 : 0 ≤ s) (hs1 : s ≤ 4294967295) :
    Calls Try.prog 21 #[.int .u32 s, .slice a 0 cap] w fun e w' => e = .returned (.int .u32 (ad s [])) ∧ w = w' := by
  go_enter Try.func21, Try.ntmps21
  go_wp2
  refine wp_loop_rounds 1 ?_
  rw [rounds_succ]
  go_wp2
  go_ret
  exact ⟨ret_u32 (show 65536 * (s / 65536) + s % 65536 = s / 65536 * 65536 + s % 65536 by omega), rfl⟩
theorem refAdler_any (s : Int) (a : Option Addr) (len cap : Nat) (zs : List Int) (w : World) (hs0 : 0 ≤ s) (hs1 : s ≤ 4294967295) (H : Bytes w a len zs) :
    Calls Try.prog 21 #[.int .u32 s, .slice a len cap] w fun e w' => e = .returned (.int .u32 (ad s zs)) ∧ w = w' := by
  obtain ⟨hz, hl, hr, rfl | ⟨b, off, rfl, hc⟩⟩ := H
  · obtain rfl : zs = [] := List.eq_nil_of_length_eq_zero hz
    exact refAdler_none s a cap w hs0 hs1
  · exact refAdler_some s b off len cap zs w hs0 hs1 hl hz hc hr

end Go.Proofs.Ytaghilpcnoekeaa
