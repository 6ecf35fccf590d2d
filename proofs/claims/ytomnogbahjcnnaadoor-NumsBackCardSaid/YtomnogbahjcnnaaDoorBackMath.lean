/- Numbers that are written are read as they were. -/
import Derived.Test.YtomnogbahjcnnaaDoorFromHead
import Derived.Test.YtomnogbahjcnnaaDoorGrow
namespace Go.Proofs.YtomnogbahjcnnaaDoor
open Go.RowKit Plain
set_option linter.unusedVariables false
open Sv.Plain (lebGo lebOf)
theorem pow7 (i : Nat) : 2 ^ (7 * (i + 1)) = 128 * 2 ^ (7 * i) := by rw [show 7 * (i + 1) = 7 + 7 * i by omega, Nat.pow_add]
theorem fits_le (acc n d i : Nat) (hd : d ≤ n) (hs : acc + n * 2 ^ (7 * i) ≤ 4611686018427387903) : ¬ (4611686018427387903 - acc) / 2 ^ (7 * i) < d := by
  have hp : 0 < 2 ^ (7 * i) := Nat.two_pow_pos _
  have : d ≤ (4611686018427387903 - acc) / 2 ^ (7 * i) := by
    rw [Nat.le_div_iff_mul_le hp]
    have : d * 2 ^ (7 * i) ≤ n * 2 ^ (7 * i) := Nat.mul_le_mul_right _ hd
    omega
  omega
theorem split_mul (n p : Nat) : n % 128 * p + n / 128 * (128 * p) = n * p := by
  rw [← Nat.mul_assoc, ← Nat.add_mul, Nat.mul_comm (n / 128) 128, Nat.mod_add_div]
theorem leb_back : ∀ (f n i acc : Nat) (more : List Int), 0 < f → n < 128 ^ f → i + f ≤ 12 → acc + n * 2 ^ (7 * i) ≤ 4611686018427387903 → lebGo (lebF f n ++ more) i acc = (acc + n * 2 ^ (7 * i), i + (lebF f n).length, 0)
  | 0, n, i, acc, more, h0, hn, hi, hs => by omega
  | f + 1, n, i, acc, more, h0, hn, hi, hs => by
    rw [lebF]
    by_cases h : n < 128
    · rw [if_pos h]
      show lebGo (((n : Nat) : Int) :: more) i acc = _
      rw [lebGo, Int.toNat_natCast, Nat.mod_eq_of_lt h, if_neg (fun hc => hc.elim (by omega) (fits_le acc n n i (Nat.le_refl _) hs)), if_pos h]
      rfl
    · rw [if_neg h]
      have e := split_mul n (2 ^ (7 * i))
      have hs2 : acc + n % 128 * 2 ^ (7 * i) + n / 128 * 2 ^ (7 * (i + 1)) = acc + n * 2 ^ (7 * i) := by rw [pow7, Nat.add_assoc, e]
      have hf : 0 < f := by
        rcases Nat.eq_zero_or_pos f with rfl | hf
        · simp at hn; omega
        · exact hf
      rw [List.cons_append, lebGo, Int.toNat_natCast, show (n % 128 + 128) % 128 = n % 128 by omega,
        if_neg (fun hc => hc.elim (by omega) (fits_le acc n (n % 128) i (Nat.mod_le _ _) hs)), if_neg (by omega),
        leb_back f (n / 128) (i + 1) _ more hf (by rw [Nat.div_lt_iff_lt_mul (by omega)]; rwa [Nat.pow_succ] at hn) (by omega) (by rw [hs2]; exact hs), hs2, List.length_cons]
      simp only [Prod.mk.injEq, true_and]
      exact ⟨by omega, trivial⟩
theorem leb_cut : ∀ (f n i acc : Nat), n < 128 ^ f → i + f ≤ 12 → acc + n * 2 ^ (7 * i) ≤ 4611686018427387903 → lebGo ((lebF f n).take ((lebF f n).length - 1)) i acc = (0, 0, 3)
  | 0, n, i, acc, hn, hi, hs => by simp [lebF, lebGo]
  | f + 1, n, i, acc, hn, hi, hs => by
    rw [lebF]
    by_cases h : n < 128
    · rw [if_pos h]; simp [lebGo]
    · rw [if_neg h]
      have e := split_mul n (2 ^ (7 * i))
      have hs2 : acc + n % 128 * 2 ^ (7 * i) + n / 128 * 2 ^ (7 * (i + 1)) = acc + n * 2 ^ (7 * i) := by rw [pow7, Nat.add_assoc, e]
      have hn2 : n / 128 < 128 ^ f := by rw [Nat.div_lt_iff_lt_mul (by omega)]; rwa [Nat.pow_succ] at hn
      have hl : 0 < (lebF f (n / 128)).length := by
        cases f with
        | zero => simp at hn2; omega
        | succ f => rw [lebF]; split <;> simp
      rw [List.length_cons, Nat.add_sub_cancel]
      obtain ⟨j, hj⟩ : ∃ j, (lebF f (n / 128)).length = j + 1 := ⟨(lebF f (n / 128)).length - 1, by omega⟩
      rw [hj, List.take_succ_cons, lebGo, Int.toNat_natCast, show (n % 128 + 128) % 128 = n % 128 by omega,
        if_neg (fun hc => hc.elim (by omega) (fits_le acc n (n % 128) i (Nat.mod_le _ _) hs)), if_neg (by omega)]
      have := leb_cut f (n / 128) (i + 1) _ hn2 (by omega) (by rw [hs2]; exact hs)
      rwa [hj, Nat.add_sub_cancel] at this
theorem p128_10 : (128 : Nat) ^ 10 = 1180591620717411303424 := by decide
theorem lebOf_back (n : Nat) (hn : n ≤ 4611686018427387903) (more : List Int) : lebOf (lebBytes n ++ more) = (n, (lebBytes n).length, 0) := by
  have := leb_back 10 n 0 0 more (by omega) (by have := p128_10; omega) (by omega) (by simpa using hn)
  simpa [lebOf, lebBytes] using this
theorem lebOf_cut (n : Nat) (hn : n ≤ 4611686018427387903) : lebOf ((lebBytes n).take ((lebBytes n).length - 1)) = (0, 0, 3) :=
  leb_cut 10 n 0 0 (by have := p128_10; omega) (by omega) (by simpa using hn)
theorem lebBytes_pos (n : Nat) : 0 < (lebBytes n).length := by
  show 0 < (lebF 10 n).length
  rw [lebF]; split <;> simp
/-- Offsets: all bytes but the last one. -/
theorem ofs_front : ∀ (f n : Nat) (tail : List Int), n < 128 ^ (f + 1) → n ≤ 4611686018427387903 → f ≤ 10 → ofsGo ((ofsF f n).reverse ++ tail) 0 0 = ofsGo tail (ofsF f n).length (if n < 128 then 0 else n / 128 - 1)
  | 0, n, tail, hn, hm, hf => by
    rw [if_pos (by simpa using hn)]; rfl
  | f + 1, n, tail, hn, hm, hf => by
    rw [ofsF]
    by_cases h : n < 128
    · rw [if_pos h, if_pos h]; rfl
    · rw [if_neg h, if_neg h, List.reverse_cons, List.append_assoc]
      have hn2 : n / 128 < 128 ^ (f + 1) := by rw [Nat.div_lt_iff_lt_mul (by omega)]; rwa [Nat.pow_succ] at hn
      obtain ⟨q, hq⟩ : ∃ q, n / 128 - 1 = q := ⟨_, rfl⟩
      rw [hq]
      have hq5 : q ≤ 36028797018963966 := by omega
      rw [ofs_front f q _ (by omega) (by omega) (by omega), List.length_cons]
      show ofsGo (((q % 128 + 128 : Nat) : Int) :: tail) _ _ = _
      have hl := ofsF_len f q
      have hz : (ofsF f q).length = 0 → q < 128 := fun h0 => by
        cases f with
        | zero => omega
        | succ f =>
          rw [ofsF] at h0
          split at h0
          · assumption
          · simp at h0
      rw [ofsGo, Int.toNat_natCast, show (q % 128 + 128) % 128 = q % 128 by omega]
      by_cases hq1 : q < 128
      · rw [if_pos hq1]
        have h0 : (ofsF f q).length = 0 := by
          cases f with
          | zero => rfl
          | succ f => rw [ofsF, if_pos hq1]; rfl
        rw [h0, if_neg (Nat.lt_irrefl 0), if_neg (by omega), if_neg (by omega)]
        rw [show 0 * 128 + q % 128 = q by omega]
      · rw [if_neg hq1]
        have h1 : 0 < (ofsF f q).length := by
          rcases Nat.eq_zero_or_pos (ofsF f q).length with h0 | h0
          · exact absurd (hz h0) hq1
          · exact h0
        rw [if_pos h1, if_neg (by omega), if_neg (by omega), show (q / 128 - 1 + 1) * 128 + q % 128 = q by omega]
theorem ofs_zero : ∀ (f n : Nat), n < 128 ^ (f + 1) → ((ofsF f n).length = 0 ↔ n < 128)
  | 0, n, h => by simp [ofsF]; simpa using h
  | f + 1, n, h => by
    rw [ofsF]
    split <;> simp_all
theorem p128_9 : (128 : Nat) ^ (9 + 1) = 1180591620717411303424 := by decide
theorem ofsOf_back (n : Nat) (hn : n ≤ 4611686018427387903) (more : List Int) : ofsOf (ofsBytes n ++ more) = (n, (ofsBytes n).length, 0) := by
  have hp := p128_9
  unfold ofsOf ofsBytes ofsRise
  rw [List.reverse_cons, List.append_assoc, ofs_front 9 n _ (by omega) hn (by omega)]
  show ofsGo (((n % 128 : Nat) : Int) :: more) _ _ = _
  have hl := ofsF_len 9 n
  have hz := ofs_zero 9 n (by omega)
  rw [ofsGo, Int.toNat_natCast, show n % 128 % 128 = n % 128 by omega]
  by_cases h : n < 128
  · rw [hz.2 h, if_pos h, if_neg (Nat.lt_irrefl 0), if_neg (by omega), if_pos (by omega)]
    rw [show 0 * 128 + n % 128 = n by omega]
    simp [hz.2 h]
  · have h1 : 0 < (ofsF 9 n).length := by
      rcases Nat.eq_zero_or_pos (ofsF 9 n).length with h0 | h0
      · exact absurd (hz.1 h0) h
      · exact h0
    rw [if_neg h, if_pos h1, if_neg (by omega), if_pos (by omega), show (n / 128 - 1 + 1) * 128 + n % 128 = n by omega]
    simp
theorem ofsOf_cut (n : Nat) (hn : n ≤ 4611686018427387903) : ofsOf ((ofsBytes n).take ((ofsBytes n).length - 1)) = (0, 0, 3) := by
  have hp := p128_9
  have e : (ofsBytes n).take ((ofsBytes n).length - 1) = (ofsF 9 n).reverse := by
    unfold ofsBytes ofsRise
    rw [List.reverse_cons]
    simp
  have := ofs_front 9 n [] (by omega) hn (by omega)
  rw [List.append_nil] at this
  rw [e]
  exact this.trans rfl
theorem ofsBytes_pos (n : Nat) : 0 < (ofsBytes n).length := by unfold ofsBytes ofsRise; simp
theorem headOf_back (k n : Nat) (hk : k ≤ 7) (hn : n ≤ 4611686018427387903) (more : List Int) : headOf (headBytes k n ++ more) = (k, n, (headBytes k n).length, 0) := by
  unfold headBytes
  by_cases h : n < 16
  · rw [if_pos h]
    show headOf (((16 * k + n : Nat) : Int) :: more) = _
    rw [headOf, Int.toNat_natCast, if_pos (by omega), show (16 * k + n) / 16 % 8 = k by omega, show (16 * k + n) % 16 = n by omega]
    rfl
  · rw [if_neg h, List.cons_append, headOf, Int.toNat_natCast, if_neg (by omega), lebOf_back (n / 16) (by omega) more]
    dsimp only
    rw [if_neg (by simp), if_neg (by omega), show (16 * k + n % 16 + 128) / 16 % 8 = k by omega, show n / 16 * 16 + (16 * k + n % 16 + 128) % 16 = n by omega]
    simp
theorem headOf_cut (k n : Nat) (hk : k ≤ 7) (hn : n ≤ 4611686018427387903) : headOf ((headBytes k n).take ((headBytes k n).length - 1)) = (0, 0, 0, 3) := by
  unfold headBytes
  by_cases h : n < 16
  · rw [if_pos h]; rfl
  · rw [if_neg h, List.length_cons, Nat.add_sub_cancel]
    obtain ⟨j, hj⟩ : ∃ j, (lebBytes (n / 16)).length = j + 1 := ⟨(lebBytes (n / 16)).length - 1, by have := lebBytes_pos (n / 16); omega⟩
    have hc := lebOf_cut (n / 16) (by omega)
    rw [hj, Nat.add_sub_cancel] at hc
    rw [hj, List.take_succ_cons, headOf, Int.toNat_natCast, if_neg (by omega), hc]
    rfl
theorem headBytes_pos (k n : Nat) : 0 < (headBytes k n).length := by unfold headBytes; split <;> simp
end Go.Proofs.YtomnogbahjcnnaaDoor
