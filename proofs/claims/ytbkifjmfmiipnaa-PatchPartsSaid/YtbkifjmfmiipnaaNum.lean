/- The number of four bytes: the walk. -/
import Derived.Test.YtbkifjmfmiipnaaMath
namespace Go.Proofs.Ytbkifjmfmiipnaa
open Go.RowKit Plain
set_option linter.unusedVariables false
theorem getD_bytes4 {w : World} {a : Option Addr} {m : Nat} {xs : List Int} (h : Bytes w a m xs) : ∀ x ∈ xs, 0 ≤ x ∧ x ≤ 255 := by
  intro x hx
  obtain ⟨j, hj, rfl⟩ := List.mem_iff_getElem.1 hx
  have := h.2.2.1 j
  rwa [List.getElem?_eq_getElem hj] at this
set_option maxHeartbeats 2000000 in
theorem fromBe_any (a : Option Addr) (cap : Nat) (xs : List Int) (w : World) (hcap : 4 ≤ cap) (H : Bytes w a 4 xs) :
    Calls Try.prog 24 #[.slice a 4 cap] w fun e w' => e = .returned (.int .u64 (num xs : Int)) ∧ w' = w := by
  have HN : Hid (∀ k, k ≤ 4 → num (xs.take k) < 256 ^ k) := fun k hk => num_lt k _ (by rw [List.length_take, H.1]; omega) (fun x hx => getD_bytes4 H x (List.mem_of_mem_take hx))
  obtain ⟨hz, -, hr, h0 | ⟨b, off, rfl, hc⟩⟩ := H
  · omega
  have HZ : Hid (xs.length = 4) := hz
  have HR : Hid (∀ j : Nat, 0 ≤ xs[j]?.getD 0 ∧ xs[j]?.getD 0 ≤ 255) := hr
  have HC : Hid (∀ j, j < 4 → w.cell? ⟨b, off + j, none⟩ = some (.int .u8 (xs[j]?.getD 0))) := hc
  clear hz hr hc
  go_enter Try.func24, Try.ntmps24
  go_wp2
  go_loop [3, 13] (fun n i => ∃ (k m : Nat), k ≤ 4 ∧ i = .int .i64 k ∧ n = .int .u64 (m : Int) ∧ m = num (xs.take k)) (fun _ i => 4 - (intOf i).toNat)
  case atStart => exact ⟨0, 0, by omega, rfl, rfl, rfl⟩
  case round =>
    obtain ⟨k, m, hk, rfl, rfl, hm⟩ := hrel
    have HM : Hid (m = num (xs.take k)) := hm
    by_cases hlt : k < 4
    · have hcell := HC.out k hlt
      have hr := HR.out k
      have hlim : m < 16777216 := by
        have := HN.out k hk
        rw [← hm] at this
        have h2 : (256 : Nat) ^ k ≤ 256 ^ 3 := Nat.pow_le_pow_right (by omega) (by omega)
        omega
      have hor := or_byte m _ hlim hr
      have HS : Hid (m * 256 + (xs[k]?.getD 0).toNat = num (xs.take (k + 1))) := by
        show _ = _
        rw [take_succ_getD xs k (by rw [HZ.out]; exact hlt), num_snoc, hm]
      clear hm
      generalize xs[k]?.getD 0 = x at *
      go_wp2
      go_round
      case rel => exact ⟨k + 1, m * 256 + x.toNat, by omega, by go_num, congrArg (Value.int .u64) (by omega), HS.out⟩
      case measure => simp [intOf]; omega
    · obtain rfl : k = 4 := by omega
      clear hm
      go_wp2
      go_ret
      rw [HM.out, List.take_of_length_le (by rw [HZ.out]; omega)]
      exact ⟨rfl, rfl⟩
end Go.Proofs.Ytbkifjmfmiipnaa
