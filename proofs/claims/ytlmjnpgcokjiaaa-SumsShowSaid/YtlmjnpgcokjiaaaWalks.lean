/- What the program's four sums and the document's two answer, call by call: the walks. -/
import Derived.Test.YtlmjnpgcokjiaaaRows
import Derived.Outline
import Derived.Test.YtlmjnpgcokjiaaaMath
import Derived.Test.YtlmjnpgcokjiaaaBytes
import Derived.WalkKit
import Derived.ProofKit
import Derived.OpenShut
import Derived.Below
import Derived.LoopN
import Derived.Lib.SmallJoins
namespace Go.Proofs.Ytlmjnpgcokjiaaa
open Go.RowKit Plain
set_option linter.unusedVariables false

theorem adlerMore_some (s : Int) (b off len cap : Nat) (zs : List Int) (w : World) (hs0 : 0 ≤ s) (hs1 : s ≤ 4294967295) (hl : len ≤ 9223372036854775807) (hz : zs.length = len)
    (hc : ∀ j, j < len → w.cell? ⟨b, off + j, none⟩ = some (.int .u8 (zs[j]?.getD 0))) (hr : ∀ j : Nat, 0 ≤ zs[j]?.getD 0 ∧ zs[j]?.getD 0 ≤ 255) :
    Calls Try.prog 15 #[.int .u32 s, .slice (some ⟨b, off, none⟩) len cap] w fun e w' => e = .returned (.int .u32 (ad s zs)) ∧ w = w' := by
  have HZ : Hid (zs.length = len) := hz
  clear hz
  go_enter Try.func15, Try.ntmps15
  go_wp2
  go_loop [5, 6, 15] (fun lo hi i => ∃ (k : Nat) (p : Int × Int), k ≤ len ∧ i = .int .i64 k ∧ lo = .int .u32 p.1 ∧ hi = .int .u32 p.2 ∧ p = adRun (s % 65536, s / 65536) (zs.take k)) (fun _ _ i => len - (intOf i).toNat)
  case atStart => exact ⟨0, _, Nat.zero_le _, rfl, by rw [and_low s hs0 hs1]; rfl, rfl, rfl⟩
  case round =>
    obtain ⟨k, p, hk, rfl, rfl, rfl, hp⟩ := hrel
    have hL : Low p := by rw [hp]; exact low_run _ (low_start s hs0 hs1)
    obtain ⟨x, y⟩ := p
    obtain ⟨hx0, hx1, hy0, hy1⟩ := hL
    simp only at hx0 hx1 hy0 hy1
    have HP : Hid ((x, y) = adRun (s % 65536, s / 65536) (zs.take k)) := hp
    clear hp
    have hrk := hr k
    by_cases hlt : k < len
    · have hcell := hc k hlt
      clear hr hc
      go_wp2
      go_round
      case rel => exact ⟨k + 1, adStep (x, y) (zs[k]?.getD 0), by omega, by go_num, rfl, rfl, by rw [take_succ_getD zs k (by rw [HZ.out]; exact hlt), adRun_snoc, ← HP.out]⟩
      case measure => simp [intOf]; omega
    · go_wp2
      go_ret
      refine ⟨?_, rfl⟩
      rw [or_high x y hx0 hx1 hy0 hy1]
      unfold ad
      rw [show adRun (s % 65536, s / 65536) zs = (x, y) by rw [HP.out, List.take_of_length_le (by rw [HZ.out]; omega)]]
      rfl
theorem adlerMore_none (s : Int) (a : Option Addr) (cap : Nat) (w : World) (hs0 : 0 ≤ s) (hs1 : s ≤ 4294967295) :
    Calls Try.prog 15 #[.int .u32 s, .slice a 0 cap] w fun e w' => e = .returned (.int .u32 (ad s [])) ∧ w = w' := by
  go_enter Try.func15, Try.ntmps15
  go_wp2
  refine wp_loop_rounds 1 ?_
  rw [rounds_succ]
  go_wp2
  go_ret
  refine ⟨?_, rfl⟩
  rw [and_low s hs0 hs1, or_high (s % 65536) (s / 65536) (by omega) (by omega) (by omega) (by omega)]
  rfl
theorem adlerMore_any (s : Int) (a : Option Addr) (len cap : Nat) (zs : List Int) (w : World) (hs0 : 0 ≤ s) (hs1 : s ≤ 4294967295) (H : Bytes w a len zs) :
    Calls Try.prog 15 #[.int .u32 s, .slice a len cap] w fun e w' => e = .returned (.int .u32 (ad s zs)) ∧ w = w' := by
  obtain ⟨hz, hl, hr, rfl | ⟨b, off, rfl, hc⟩⟩ := H
  · obtain rfl : zs = [] := List.eq_nil_of_length_eq_zero hz
    exact adlerMore_none s a cap w hs0 hs1
  · exact adlerMore_some s b off len cap zs w hs0 hs1 hl hz hc hr
theorem adler_any (a : Option Addr) (len cap : Nat) (zs : List Int) (w : World) (H : Bytes w a len zs) :
    Calls Try.prog 11 #[.slice a len cap] w fun e w' => e = .returned (.int .u32 (ad 1 zs)) ∧ w = w' := by
  have HH : Hid (Bytes w a len zs) := H
  clear H
  go_enter Try.func11, Try.ntmps11
  go_wp2_with fail
  refine (adlerMore_any 1 a len cap zs w (by omega) (by omega) HH.out).mono ?_
  rintro e w' ⟨rfl, rfl⟩
  go_wp2_with fail
  go_ret
  exact ⟨rfl, rfl⟩

/-! ### The document's Adler -/
theorem refAdler_some (s : Int) (b off len cap : Nat) (zs : List Int) (w : World) (hs0 : 0 ≤ s) (hs1 : s ≤ 4294967295) (hl : len ≤ 9223372036854775807) (hz : zs.length = len)
    (hc : ∀ j, j < len → w.cell? ⟨b, off + j, none⟩ = some (.int .u8 (zs[j]?.getD 0))) (hr : ∀ j : Nat, 0 ≤ zs[j]?.getD 0 ∧ zs[j]?.getD 0 ≤ 255) :
    Calls Try.prog 12 #[.int .u32 s, .slice (some ⟨b, off, none⟩) len cap] w fun e w' => e = .returned (.int .u32 (ad s zs)) ∧ w = w' := by
  have HZ : Hid (zs.length = len) := hz
  clear hz
  go_enter Try.func12, Try.ntmps12
  go_wp2
  go_loop [5, 6, 7] (fun lo hi i => ∃ (k : Nat) (p : Int × Int), k ≤ len ∧ i = .int .i64 k ∧ lo = .int .i64 p.1 ∧ hi = .int .i64 p.2 ∧ p = adRun (s % 65536, s / 65536) (zs.take k)) (fun _ _ i => len - (intOf i).toNat)
  case atStart => exact ⟨0, _, Nat.zero_le _, rfl, rfl, rfl, rfl⟩
  case round =>
    obtain ⟨k, p, hk, rfl, rfl, rfl, hp⟩ := hrel
    have hL : Low p := by rw [hp]; exact low_run _ (low_start s hs0 hs1)
    obtain ⟨x, y⟩ := p
    obtain ⟨hx0, hx1, hy0, hy1⟩ := hL
    simp only at hx0 hx1 hy0 hy1
    have HP : Hid ((x, y) = adRun (s % 65536, s / 65536) (zs.take k)) := hp
    clear hp
    have hrk := hr k
    by_cases hlt : k < len
    · have hcell := hc k hlt
      clear hr hc
      go_wp2
      go_round
      case rel => exact ⟨k + 1, adStep (x, y) (zs[k]?.getD 0), by omega, by go_num, rfl, by show Value.int _ _ = Value.int _ _; unfold adStep; congr 2; simp only; omega, by rw [take_succ_getD zs k (by rw [HZ.out]; exact hlt), adRun_snoc, ← HP.out]⟩
      case measure => simp [intOf]; omega
    · go_wp2
      go_ret
      refine ⟨?_, rfl⟩
      unfold ad
      rw [show adRun (s % 65536, s / 65536) zs = (x, y) by rw [HP.out, List.take_of_length_le (by rw [HZ.out]; omega)]]
      exact ret_u32 (show 65536 * y + x = y * 65536 + x by omega)
theorem refAdler_none (s : Int) (a : Option Addr) (cap : Nat) (w : World) (hs0 : 0 ≤ s) (hs1 : s ≤ 4294967295) :
    Calls Try.prog 12 #[.int .u32 s, .slice a 0 cap] w fun e w' => e = .returned (.int .u32 (ad s [])) ∧ w = w' := by
  go_enter Try.func12, Try.ntmps12
  go_wp2
  refine wp_loop_rounds 1 ?_
  rw [rounds_succ]
  go_wp2
  go_ret
  exact ⟨ret_u32 (show 65536 * (s / 65536) + s % 65536 = s / 65536 * 65536 + s % 65536 by omega), rfl⟩
theorem refAdler_any (s : Int) (a : Option Addr) (len cap : Nat) (zs : List Int) (w : World) (hs0 : 0 ≤ s) (hs1 : s ≤ 4294967295) (H : Bytes w a len zs) :
    Calls Try.prog 12 #[.int .u32 s, .slice a len cap] w fun e w' => e = .returned (.int .u32 (ad s zs)) ∧ w = w' := by
  obtain ⟨hz, hl, hr, rfl | ⟨b, off, rfl, hc⟩⟩ := H
  · obtain rfl : zs = [] := List.eq_nil_of_length_eq_zero hz
    exact refAdler_none s a cap w hs0 hs1
  · exact refAdler_some s b off len cap zs w hs0 hs1 hl hz hc hr

/-! ### The CRC -/
theorem crcMore_some (c : BitVec 32) (b off len cap : Nat) (zs : List Int) (w : World) (hl : len ≤ 9223372036854775807) (hz : zs.length = len)
    (hc : ∀ j, j < len → w.cell? ⟨b, off + j, none⟩ = some (.int .u8 (zs[j]?.getD 0))) (hr : ∀ j : Nat, 0 ≤ zs[j]?.getD 0 ∧ zs[j]?.getD 0 ≤ 255) :
    Calls Try.prog 16 #[.int .u32 c.toNat, .slice (some ⟨b, off, none⟩) len cap] w fun e w' => e = .returned (.int .u32 (crc c zs).toNat) ∧ w = w' := by
  have HZ : Hid (zs.length = len) := hz
  clear hz
  go_enter Try.func16, Try.ntmps16
  go_wp2
  go_loop [5, 12] (fun x i => ∃ (k : Nat) (y : BitVec 32), k ≤ len ∧ i = .int .i64 k ∧ x = .int .u32 y.toNat ∧ y = crcRun (~~~ c) (zs.take k)) (fun _ i => len - (intOf i).toNat)
  case atStart => exact ⟨0, ~~~ c, Nat.zero_le _, rfl, by rw [x_ones], rfl⟩
  case round =>
    obtain ⟨k, y, hk, rfl, rfl, hy⟩ := hrel
    have HY : Hid (y = crcRun (~~~ c) (zs.take k)) := hy
    clear hy
    have hrk := hr k
    by_cases hlt : k < len
    · have hcell := hc k hlt
      clear hr hc
      go_wp2
      obtain ⟨wo, rfl⟩ : ∃ wo : World, wo = w := ⟨_, rfl⟩
      go_loop [5, 20] (fun x i => ∃ (j : Nat) (z : BitVec 32), j ≤ 8 ∧ i = .int .i64 j ∧ x = .int .u32 z.toNat ∧ z = crcBits (y ^^^ BitVec.ofInt 32 (zs[k]?.getD 0)) j) (fun _ i => 8 - (intOf i).toNat)
      case atStart => exact ⟨0, y ^^^ BitVec.ofInt 32 (zs[k]?.getD 0), by omega, rfl, by rw [x_byte _ _ hrk.1 hrk.2], rfl⟩
      case round =>
        obtain ⟨j, z, hj, rfl, rfl, hz⟩ := hrel
        have HE : Hid (z = crcBits (y ^^^ BitVec.ofInt 32 (zs[k]?.getD 0)) j) := hz
        clear hz
        by_cases h8 : j < 8
        · go_wp2
          go_round
          case rel => exact ⟨j + 1, crcBit z, by omega, by go_num, by rw [x_bit'], by rw [HE.out]; rfl⟩
          case measure => simp [intOf]; omega
        · obtain rfl : j = 8 := by omega
          go_wp2
          go_round
          case rel => exact ⟨k + 1, z, by omega, by go_num, rfl, by rw [take_succ_getD zs k (by rw [HZ.out]; exact hlt), crcRun_snoc, ← HY.out, HE.out]; rfl⟩
          case measure => simp [intOf]; omega
    · go_wp2
      go_ret
      refine ⟨?_, rfl⟩
      rw [x_ones]
      unfold crc
      rw [HY.out, List.take_of_length_le (by rw [HZ.out]; omega)]
      rfl
theorem crcMore_none (c : BitVec 32) (a : Option Addr) (cap : Nat) (w : World) :
    Calls Try.prog 16 #[.int .u32 c.toNat, .slice a 0 cap] w fun e w' => e = .returned (.int .u32 (crc c []).toNat) ∧ w = w' := by
  go_enter Try.func16, Try.ntmps16
  go_wp2
  refine wp_loop_rounds 1 ?_
  rw [rounds_succ]
  go_wp2
  go_ret
  refine ⟨?_, rfl⟩
  rw [x_ones, x_ones]
  rfl
theorem crcMore_any (c : BitVec 32) (a : Option Addr) (len cap : Nat) (zs : List Int) (w : World) (H : Bytes w a len zs) :
    Calls Try.prog 16 #[.int .u32 c.toNat, .slice a len cap] w fun e w' => e = .returned (.int .u32 (crc c zs).toNat) ∧ w = w' := by
  obtain ⟨hz, hl, hr, rfl | ⟨b, off, rfl, hc⟩⟩ := H
  · obtain rfl : zs = [] := List.eq_nil_of_length_eq_zero hz
    exact crcMore_none c a cap w
  · exact crcMore_some c b off len cap zs w hl hz hc hr
theorem crcMore_zero (a : Option Addr) (len cap : Nat) (zs : List Int) (w : World) (H : Bytes w a len zs) :
    Calls Try.prog 16 #[.int .u32 0, .slice a len cap] w fun e w' => e = .returned (.int .u32 (crc 0 zs).toNat) ∧ w = w' := crcMore_any 0 a len cap zs w H
theorem crc_any (a : Option Addr) (len cap : Nat) (zs : List Int) (w : World) (H : Bytes w a len zs) :
    Calls Try.prog 13 #[.slice a len cap] w fun e w' => e = .returned (.int .u32 (crc 0 zs).toNat) ∧ w = w' := by
  have HH : Hid (Bytes w a len zs) := H
  clear H
  go_enter Try.func13, Try.ntmps13
  go_wp2_with fail
  refine (crcMore_zero a len cap zs w HH.out).mono ?_
  rintro e w' ⟨rfl, rfl⟩
  go_wp2_with fail
  go_ret
  exact ⟨rfl, rfl⟩

/-! ### The document's CRC -/
theorem refCrc_some (c : BitVec 32) (b off len cap : Nat) (zs : List Int) (w : World) (hl : len ≤ 9223372036854775807) (hz : zs.length = len)
    (hc : ∀ j, j < len → w.cell? ⟨b, off + j, none⟩ = some (.int .u8 (zs[j]?.getD 0))) (hr : ∀ j : Nat, 0 ≤ zs[j]?.getD 0 ∧ zs[j]?.getD 0 ≤ 255) :
    Calls Try.prog 14 #[.int .u32 c.toNat, .slice (some ⟨b, off, none⟩) len cap] w fun e w' => e = .returned (.int .u32 (crc c zs).toNat) ∧ w = w' := by
  have HZ : Hid (zs.length = len) := hz
  have hcl := c.isLt
  clear hz
  go_enter Try.func14, Try.ntmps14
  go_wp2
  go_loop [5, 6] (fun x i => ∃ (k : Nat) (y : BitVec 32), k ≤ len ∧ i = .int .i64 k ∧ x = .int .i64 y.toNat ∧ y = crcRun (~~~ c) (zs.take k)) (fun _ i => len - (intOf i).toNat)
  case atStart => exact ⟨0, ~~~ c, Nat.zero_le _, rfl, by rw [← x_not c], rfl⟩
  case round =>
    obtain ⟨k, y, hk, rfl, rfl, hy⟩ := hrel
    have HY : Hid (y = crcRun (~~~ c) (zs.take k)) := hy
    clear hy
    have hyl := y.isLt
    have hrk := hr k
    by_cases hlt : k < len
    · have hcell := hc k hlt
      clear hr hc
      go_wp2
      obtain ⟨wo, rfl⟩ : ∃ wo : World, wo = w := ⟨_, rfl⟩
      go_loop [5, 7, 8] (fun x z i => ∃ (j : Nat) (v : BitVec 32) (u : Nat), j ≤ 8 ∧ u < 256 ∧ i = .int .i64 j ∧ x = .int .i64 v.toNat ∧ z = .int .i64 u ∧ u = (zs[k]?.getD 0).toNat / 2 ^ j ∧ v ^^^ BitVec.ofNat 32 u = crcBits (y ^^^ BitVec.ofInt 32 (zs[k]?.getD 0)) j) (fun _ _ i => 8 - (intOf i).toNat)
      case atStart => exact ⟨0, y, (zs[k]?.getD 0).toNat, by omega, by omega, rfl, rfl, by rw [Int.toNat_of_nonneg hrk.1], by simp, by rw [byte_nat _ hrk.1]; rfl⟩
      case round =>
        obtain ⟨j, v, u, hj, hu, rfl, rfl, rfl, hz, hv⟩ := hrel
        have HE : Hid (v ^^^ BitVec.ofNat 32 u = crcBits (y ^^^ BitVec.ofInt 32 (zs[k]?.getD 0)) j) := hv
        have HU : Hid (u = (zs[k]?.getD 0).toNat / 2 ^ j) := hz
        clear hz hv
        have hvl := v.isLt
        by_cases h8 : j < 8
        · by_cases hb : (v.toNat + u) % 2 = 1
          · have HB : Hid ((v.toNat + u) % 2 = 1) := hb
            have hbb : (((v.toNat : Int) % 2 + (u : Int) % 2) % 2 == 1) = true := by rw [beq_iff_eq]; omega
            clear hb
            go_wp2
            go_round
            case rel => exact ⟨j + 1, (v >>> 1) ^^^ poly, u / 2, by omega, by omega, by go_num, by rw [i64_poly], by go_num, by rw [HU.out, Nat.pow_succ, Nat.div_div_eq_div_mul], by rw [bit_one v u hu HB.out, HE.out]; rfl⟩
            case measure => simp [intOf]; omega
          · have HB : Hid ((v.toNat + u) % 2 = 0) := (by omega : (v.toNat + u) % 2 = 0)
            have hbb : (((v.toNat : Int) % 2 + (u : Int) % 2) % 2 == 1) = false := by rw [beq_eq_false_iff_ne]; omega
            clear hb
            go_wp2
            go_round
            case rel => exact ⟨j + 1, v >>> 1, u / 2, by omega, by omega, by go_num, by rw [← x_half], by go_num, by rw [HU.out, Nat.pow_succ, Nat.div_div_eq_div_mul], by rw [bit_zero v u hu HB.out, HE.out]; rfl⟩
            case measure => simp [intOf]; omega
        · obtain rfl : j = 8 := by omega
          have hz : u = 0 := by rw [HU.out]; omega
          have HZ0 : Hid (u = 0) := hz
          clear hz
          go_wp2
          go_round
          case rel => exact ⟨k + 1, v, by omega, by go_num, rfl, by rw [take_succ_getD zs k (by rw [HZ.out]; exact hlt), crcRun_snoc, ← HY.out]; unfold crcStep; rw [← HE.out, HZ0.out]; simp⟩
          case measure => simp [intOf]; omega
    · go_wp2
      go_ret
      refine ⟨?_, rfl⟩
      refine ret_u32 (?_ : _ = ((crc c zs).toNat : Int))
      rw [x_not]
      unfold crc
      rw [HY.out, List.take_of_length_le (by rw [HZ.out]; omega)]
theorem refCrc_none (c : BitVec 32) (a : Option Addr) (cap : Nat) (w : World) :
    Calls Try.prog 14 #[.int .u32 c.toNat, .slice a 0 cap] w fun e w' => e = .returned (.int .u32 (crc c []).toNat) ∧ w = w' := by
  have hcl := c.isLt
  go_enter Try.func14, Try.ntmps14
  go_wp2
  refine wp_loop_rounds 1 ?_
  rw [rounds_succ]
  go_wp2
  go_ret
  refine ⟨ret_u32 (?_ : _ = ((crc c []).toNat : Int)), rfl⟩
  rw [show crc c [] = c from BitVec.not_not]
  omega
theorem refCrc_any (c : BitVec 32) (a : Option Addr) (len cap : Nat) (zs : List Int) (w : World) (H : Bytes w a len zs) :
    Calls Try.prog 14 #[.int .u32 c.toNat, .slice a len cap] w fun e w' => e = .returned (.int .u32 (crc c zs).toNat) ∧ w = w' := by
  obtain ⟨hz, hl, hr, rfl | ⟨b, off, rfl, hc⟩⟩ := H
  · obtain rfl : zs = [] := List.eq_nil_of_length_eq_zero hz
    exact refCrc_none c a cap w
  · exact refCrc_some c b off len cap zs w hl hz hc hr
/-! ### The given slices, their first bytes; the chapter's examples -/
theorem few_any (a : Option Addr) (len cap : Nat) (zs : List Int) (w : World) (hlc : len ≤ cap) (hcm : cap ≤ 9223372036854775807) (H : Bytes w a len zs) :
    Calls Try.prog 9 #[.slice a len cap] w fun e w' => e = .returned (.slice a (min len 5000) cap) ∧ w = w' := by
  obtain ⟨hz, hl, hr, h⟩ := H
  clear hr hz
  by_cases h5 : len ≤ 5000
  · have e5 : min len 5000 = len := by omega
    have E5 : Hid (min len 5000 = len) := e5
    clear e5
    rcases h with rfl | ⟨b, off, rfl, hc⟩
    · go_enter Try.func9, Try.ntmps9
      go_wp2
      go_ret
      exact ⟨rfl, rfl⟩
    · clear hc
      go_enter Try.func9, Try.ntmps9
      go_wp2
      go_ret
      rw [E5.out]
      exact ⟨rfl, rfl⟩
  · rcases h with rfl | ⟨b, off, rfl, hc⟩
    · omega
    · clear hc
      go_enter Try.func9, Try.ntmps9
      go_wp2
      go_ret
      rw [show min len 5000 = 5000 by omega]
      exact ⟨rfl, rfl⟩
/-- The first 5000 bytes of a slice that came in. -/
theorem few_row {w : World} {a : Option Addr} {len cap : Nat} {zs : List Int}
    (h : (a = none ∧ len = 0 ∧ cap = 0 ∧ zs = []) ∨ ∃ x, a = some x ∧ len ≤ cap ∧ cap ≤ maxLen ∧ zs.length = cap ∧ (∀ i, i < zs.length → w.cell? (x.add i) = some (.int .u8 (zs.getD i 0))) ∧ ∀ n ∈ zs, (Lit.int .u8 n).wf = true) :
    ∃ (m : Nat) (xs : List Int), m ≤ 5000 ∧ m ≤ cap ∧ Hid (a = none → cap = 0) ∧ Hid (Bytes w a m xs) ∧
      Hid (∀ w', Below w.heap.size w w' → Calls Try.prog 9 #[.slice a len cap] w' fun e w'' => e = .returned (.slice a m cap) ∧ w' = w'') := by
  obtain ⟨hb, hlc, hcm⟩ := bytes_of h
  refine ⟨min len 5000, _, by omega, by omega, ?_, hb.first 5000, fun w' hw => few_any a len cap _ w' hlc hcm (hb.below hw)⟩
  rcases h with ⟨_, _, h, _⟩ | ⟨x, h, _⟩
  · exact fun _ => h
  · exact fun e => by rw [h] at e; cases e
theorem adler_nil (w : World) : Calls Try.prog 11 #[.slice none 0 0] w fun e w' => e = .returned (.int .u32 1) ∧ w = w' :=
  adler_any none 0 0 [] w ⟨rfl, by omega, by simp, .inl rfl⟩
theorem crc_nil (w : World) : Calls Try.prog 13 #[.slice none 0 0] w fun e w' => e = .returned (.int .u32 0) ∧ w = w' :=
  crc_any none 0 0 [] w ⟨rfl, by omega, by simp, .inl rfl⟩
theorem adler_lit (w : World) (g : Nat) (hg : g = w.heap.size) (xs : List Int) (t : TypeId) (fz : Nat × Nat) (n c : Nat) (v : Int) (hn : xs.length = n) (hn1 : n ≤ 9223372036854775807) (hx : ∀ x ∈ xs, 0 ≤ x ∧ x ≤ 255) (hv : ad 1 xs = v) :
    Calls Try.prog 11 #[.slice (some ⟨g, 0, none⟩) n c] (w.alloc (.cells (xs.map (Value.int .u8)).toArray t fz)) fun e w' => e = .returned (.int .u32 v) ∧ w.alloc (.cells (xs.map (Value.int .u8)).toArray t fz) = w' :=
  hv ▸ adler_any _ _ _ _ _ (Bytes.lit w g hg xs t fz n hn hn1 hx)
theorem crc_lit (w : World) (g : Nat) (hg : g = w.heap.size) (xs : List Int) (t : TypeId) (fz : Nat × Nat) (n c : Nat) (v : Int) (hn : xs.length = n) (hn1 : n ≤ 9223372036854775807) (hx : ∀ x ∈ xs, 0 ≤ x ∧ x ≤ 255) (hv : ((crc 0 xs).toNat : Int) = v) :
    Calls Try.prog 13 #[.slice (some ⟨g, 0, none⟩) n c] (w.alloc (.cells (xs.map (Value.int .u8)).toArray t fz)) fun e w' => e = .returned (.int .u32 v) ∧ w.alloc (.cells (xs.map (Value.int .u8)).toArray t fz) = w' :=
  hv ▸ crc_any _ _ _ _ _ (Bytes.lit w g hg xs t fz n hn hn1 hx)
theorem known_any (w : World) : Calls Try.prog 10 #[] w fun e w' => e = .returned (.bool true) ∧ Below w.heap.size w w' := by
  have hcv := fun (w : World) (C : Array Value) (n c g : Nat) (hg : g = w.heap.size) => Joins.run_convert_bytes_const_at (P := Try.prog) w 22 5 C n c g hg Try.underlying22 Try.underlying5
  go_enter Try.func10, Try.ntmps10
  go_wp2_with fail
  refine (adler_nil w).mono ?_
  rintro e w' ⟨rfl, rfl⟩
  go_wp2_with fail
  refine (crc_nil w).mono ?_
  rintro e w' ⟨rfl, rfl⟩
  go_wp2_with fail
  refine (adler_lit w _ rfl [87, 105, 107, 105, 112, 101, 100, 105, 97] 5 (9, 10) 9 9 300286872 rfl (by omega) (by decide) (by decide +kernel)).mono ?_
  rintro e w' ⟨rfl, rfl⟩
  go_wp2_with fail
  refine (crc_lit _ _ (by simp) [97] 5 (1, 2) 1 1 3904355907 rfl (by omega) (by decide) (by decide +kernel)).mono ?_
  rintro e w' ⟨rfl, rfl⟩
  go_wp2_with fail
  go_ret
  refine ⟨rfl, ?_⟩
  exact ((Below.refl _ _).alloc (Nat.le_refl _) _).alloc (by simp) _
theorem take_succ_of (k n : Nat) (xs ys zs : List Int) (h : k < n) : (xor3 n xs ys zs).take (k + 1) = (xor3 n xs ys zs).take k ++ [bits .xor .u8 (bits .xor .u8 (xs[k]?.getD 0) (ys[k]?.getD 0)) (zs[k]?.getD 0)] := by
  rw [take_succ_getD _ k (by rw [xor3_length]; exact h), xor3_get n xs ys zs k h]
/-! ### A new slice of noughts -/
def Zs (k : Nat) : Array Value := ((List.replicate k (0 : Int)).map (Value.int .u8)).toArray
theorem make_zs (k : Nat) (hk : k ≤ 281474976710656) (w : World) : (Instr.makeSlice 22 (.int .i64 (k : Int)) (.int .i64 (k : Int))).run Try.prog w = .ok (.slice (some ⟨w.heap.size, 0, none⟩) k k) (w.alloc (.cells (Zs k) 5)) := by
  obtain ⟨i, hi, hz0, hz1, hz2⟩ := info_parts u8info
  rw [run_make (P := Try.prog) w 22 5 i (.int .u8 0) Try.underlying22 hi hz0 .i64 .i64 k k (by omega) (Int.le_refl _) (by rw [hz2]; omega) (by omega), hz1]
  have e : madeCells (Value.int .u8 0).cells ((k : Int).toNat * 1) = Zs k := by
    apply Array.toList_inj.1
    rw [show (Value.int .u8 0).cells = #[Value.int .u8 0] from rfl, toList_madeCells_one]
    simp [Zs]
  rw [e]
  rfl
theorem Bytes.zeros (w : World) (g : Nat) (hg : g = w.heap.size) (k : Nat) (hk : k ≤ 9223372036854775807) (fz : Nat × Nat) : Bytes (w.alloc (.cells (Zs k) 5 fz)) (some ⟨g, 0, none⟩) k (List.replicate k 0) :=
  Bytes.lit w g hg (List.replicate k 0) 5 fz k (by simp) hk (fun x hx => by rw [(List.mem_replicate.1 hx).2]; omega)
end Go.Proofs.Ytlmjnpgcokjiaaa
