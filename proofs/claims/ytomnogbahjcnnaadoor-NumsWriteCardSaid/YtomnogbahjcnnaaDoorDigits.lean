/- Digits of numbers, and the numbers that texts are. -/
import Derived.Test.YtomnogbahjcnnaaDoorDec
import Derived.Lib.AtoiAllCases
import Derived.Lib.ItoaMem
namespace Go.Proofs.YtomnogbahjcnnaaDoor
open Go.RowKit
set_option linter.unusedVariables false
open Plain
theorem digit_nat (d : Nat) (h : d < 10) : (UInt8.ofNat (48 + d)).toNat = 48 + d := by
  show (48 + d) % 256 = 48 + d
  omega
theorem dec_digit : ∀ (k u : Nat), u ≤ k → ∀ c ∈ Lib.decDigits u, 48 ≤ c.toNat ∧ c.toNat ≤ 57
  | 0, u, hk, c, hc => by
    have hu : u < 10 := by omega
    rw [Lib.decDigits, dif_pos hu, List.mem_singleton] at hc
    rw [hc, digit_nat u hu]; omega
  | k + 1, u, hk, c, hc => by
    rw [Lib.decDigits] at hc
    split at hc
    · rename_i hu
      rw [List.mem_singleton] at hc
      rw [hc, digit_nat u hu]; omega
    · rcases List.mem_append.1 hc with hc | hc
      · exact dec_digit k (u / 10) (by omega) c hc
      · rw [List.mem_singleton] at hc
        rw [hc, digit_nat _ (by omega)]; omega
theorem dec_ne_nil (u : Nat) : Lib.decDigits u ≠ [] := by
  rw [Lib.decDigits]
  split <;> simp
theorem dec_head : ∀ (k u : Nat), u ≤ k → u ≠ 0 → ∃ c r, Lib.decDigits u = c :: r ∧ c.toNat ≠ 48
  | 0, u, hk, h0 => by omega
  | k + 1, u, hk, h0 => by
    rw [Lib.decDigits]
    split
    · rename_i hu
      exact ⟨_, [], rfl, by rw [digit_nat u hu]; omega⟩
    · obtain ⟨c, r, hr, hc⟩ := dec_head k (u / 10) (by omega) (by omega)
      exact ⟨c, _, by rw [hr]; rfl, hc⟩
theorem parse_append : ∀ (l r : List UInt8) (acc v : Nat), Lib.parseUint10 acc l = .ok v → Lib.parseUint10 acc (l ++ r) = Lib.parseUint10 v r
  | [], r, acc, v, h => by
    simp only [Lib.parseUint10] at h
    injection h with h
    rw [h]; rfl
  | c :: l, r, acc, v, h => by
    rw [List.cons_append]
    simp only [Lib.parseUint10] at h ⊢
    split at h
    · rename_i hd
      rw [if_pos hd]
      split at h
      · cases h
      · rename_i h1
        rw [if_neg h1]
        split at h
        · cases h
        · rename_i h2
          rw [if_neg h2]
          exact parse_append l r _ v h
    · cases h
theorem parse_one (acc d : Nat) (hd : d < 10) (h : acc * 10 + d ≤ 9223372036854775807) : Lib.parseUint10 acc [UInt8.ofNat (48 + d)] = .ok (acc * 10 + d) := by
  simp only [Lib.parseUint10, digit_nat d hd]
  rw [if_pos (by omega), if_neg (by omega), if_neg (by omega)]
  congr 1
  omega
theorem parse_dec : ∀ (k u : Nat), u ≤ k → u ≤ 9223372036854775807 → Lib.parseUint10 0 (Lib.decDigits u) = .ok u
  | 0, u, hk, h => by
    have hu : u < 10 := by omega
    rw [Lib.decDigits, dif_pos hu, parse_one 0 u hu (by omega)]
    simp
  | k + 1, u, hk, h => by
    rw [Lib.decDigits]
    split
    · rename_i hu
      rw [parse_one 0 u hu (by omega)]
      simp
    · rw [parse_append _ _ 0 _ (parse_dec k (u / 10) (by omega) (by omega)), parse_one _ _ (by omega) (by omega)]
      congr 1
      omega
theorem itoa_nat (n : Nat) : Lib.itoa (n : Int) = Lib.decDigits n := Lib.itoa_nonneg n
theorem atoi_dec (n : Nat) (hn : n ≤ 4611686018427387903) : Lib.atoiAll (Lib.decDigits n) = .ok (n : Int) := by
  cases h : Lib.decDigits n with
  | nil => exact absurd h (dec_ne_nil n)
  | cons c r =>
    have hc := dec_digit n n (Nat.le_refl _) c (by rw [h]; simp)
    rw [Lib.atoiAll_plain c r (by omega) (by omega), ← h]
    unfold Lib.parseMag
    rw [if_neg (dec_ne_nil n), parse_dec n n (Nat.le_refl _) (by omega)]
    simp only [Lib.signless]
    rw [if_neg (by omega)]
theorem decF_dec (n : Nat) (hn : n ≤ 4611686018427387903) : decF (Lib.decDigits n) = (n, 0) := by
  have := decF_yes (atoi_dec n hn) (by omega) (by omega) (itoa_nat n)
  simpa using this
theorem decF_other {l : List UInt8} (h : ∀ n : Nat, n ≤ 4611686018427387903 → Lib.decDigits n ≠ l) : decF l = (0, 4) := by
  cases hl : Lib.atoiAll l with
  | ok v =>
    refine decF_no hl fun ⟨h0, h1, h2⟩ => ?_
    obtain ⟨n, rfl⟩ : ∃ n : Nat, v = n := ⟨v.toNat, by omega⟩
    exact h n (by omega) ((itoa_nat n).symm.trans h2)
  | «syntax» => exact decF_none fun u => by rw [hl]; simp
  | range => exact decF_none fun u => by rw [hl]; simp
theorem decF_minus (r : List UInt8) : decF (45 :: r) = (0, 4) := decF_other fun n hn h => by
  have := dec_digit n n (Nat.le_refl _) 45 (by rw [h]; simp)
  have e : (45 : UInt8).toNat = 45 := rfl
  omega
theorem decF_zero (r : List UInt8) (hr : r ≠ []) : decF (48 :: r) = (0, 4) := decF_other fun n hn h => by
  rcases Nat.eq_zero_or_pos n with rfl | h0
  · rw [Lib.decDigits, dif_pos (by omega)] at h
    injection h with h1 h2
    exact hr h2.symm
  · obtain ⟨c, r', h1, h2⟩ := dec_head n n (Nat.le_refl _) (by omega)
    rw [h1] at h
    injection h with h3 h4
    exact h2 (by rw [h3]; rfl)
theorem dec_neg (n : Nat) (hn : n ≤ 4611686018427387903) (h1 : 1 ≤ n) (w : World) (htab : Lib.TabIs Tryd.prog w "internal/strconv.uint64pow10" .u64 Lib.pow10Tab) :
    Calls Tryd.prog 17 #[.int .i64 (-(n : Int))] w fun e w' => e = .returned (.string ⟨(45 :: Lib.decDigits n).toArray⟩) ∧ Below w.heap.size w w' := by
  go_enter Tryd.func17, Tryd.ntmps17
  go_wp2_with fail
  refine (Tryd.strconv_Itoa (-(n : Int)) (by omega) (by omega) w htab).mono ?_
  rintro e w2 ⟨rfl, k, os, rfl⟩
  rw [Lib.itoa_neg n h1]
  have HB : Hid (Below w.heap.size w (Sort.grow (w.drewN k) os)) := below_grow w k os
  go_wp2_with fail
  go_ret
  exact ⟨rfl, HB.out⟩
end Go.Proofs.YtomnogbahjcnnaaDoor
