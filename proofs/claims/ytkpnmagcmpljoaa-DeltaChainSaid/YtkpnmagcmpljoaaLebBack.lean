/- Numbers in sevens that are written are read as they were. -/
import Derived.Test.YtkpnmagcmpljoaaMath
import Derived.Test.YtkpnmagcmpljoaaLeb
namespace Go.Proofs.Ytkpnmagcmpljoaa
open Go.RowKit Plain
set_option linter.unusedVariables false
theorem pow7 (i : Nat) : 2 ^ (7 * (i + 1)) = 128 * 2 ^ (7 * i) := by rw [show 7 * (i + 1) = 7 + 7 * i by omega, Nat.pow_add]
theorem fits_le (acc n d i : Nat) (hd : d ≤ n) (hs : acc + n * 2 ^ (7 * i) ≤ 4611686018427387903) : ¬ (4611686018427387903 - acc) / 2 ^ (7 * i) < d := by
  have hp : 0 < 2 ^ (7 * i) := Nat.two_pow_pos _
  have : d ≤ (4611686018427387903 - acc) / 2 ^ (7 * i) := by
    rw [Nat.le_div_iff_mul_le hp]
    have : d * 2 ^ (7 * i) ≤ n * 2 ^ (7 * i) := Nat.mul_le_mul_right _ hd
    omega
  omega
theorem split_mul (n p : Nat) : n % 128 * p + n / 128 * (128 * p) = n * p := by
  rw [← Nat.mul_assoc, ← Nat.add_mul, Nat.mul_comm (n / 128) 128, Nat.mod_add_div]
theorem leb_back : ∀ (f n i acc : Nat) (more : List Int), 0 < f → n < 128 ^ f → i + f ≤ 12 → acc + n * 2 ^ (7 * i) ≤ 4611686018427387903 → lebGo (lebF f n ++ more) i acc = (acc + n * 2 ^ (7 * i), i + (lebF f n).length, 0)
  | 0, n, i, acc, more, h0, hn, hi, hs => by omega
  | f + 1, n, i, acc, more, h0, hn, hi, hs => by
    rw [lebF]
    by_cases h : n < 128
    · rw [if_pos h]
      show lebGo (((n : Nat) : Int) :: more) i acc = _
      rw [lebGo, Int.toNat_natCast, Nat.mod_eq_of_lt h, if_neg (fun hc => hc.elim (by omega) (fits_le acc n n i (Nat.le_refl _) hs)), if_pos h]
      rfl
    · rw [if_neg h]
      have e := split_mul n (2 ^ (7 * i))
      have hs2 : acc + n % 128 * 2 ^ (7 * i) + n / 128 * 2 ^ (7 * (i + 1)) = acc + n * 2 ^ (7 * i) := by rw [pow7, Nat.add_assoc, e]
      have hf : 0 < f := by
        rcases Nat.eq_zero_or_pos f with rfl | hf
        · simp at hn; omega
        · exact hf
      rw [List.cons_append, lebGo, Int.toNat_natCast, show (n % 128 + 128) % 128 = n % 128 by omega,
        if_neg (fun hc => hc.elim (by omega) (fits_le acc n (n % 128) i (Nat.mod_le _ _) hs)), if_neg (by omega),
        leb_back f (n / 128) (i + 1) _ more hf (by rw [Nat.div_lt_iff_lt_mul (by omega)]; rwa [Nat.pow_succ] at hn) (by omega) (by rw [hs2]; exact hs), hs2, List.length_cons]
      simp only [Prod.mk.injEq, true_and]
      exact ⟨by omega, trivial⟩
theorem p128_10 : (128 : Nat) ^ 10 = 1180591620717411303424 := by decide
theorem lebOf_back (n : Nat) (hn : n ≤ 4611686018427387903) (more : List Int) : lebOf (lebBytes n ++ more) = (n, (lebBytes n).length, 0) := by
  have := leb_back 10 n 0 0 more (by omega) (by have := p128_10; omega) (by omega) (by simpa using hn)
  simpa [lebOf, lebBytes] using this
theorem lebBytes_pos (n : Nat) : 0 < (lebBytes n).length := by
  show 0 < (lebF 10 n).length
  rw [lebF]; split <;> simp
theorem lebBytes_len (n : Nat) : (lebBytes n).length ≤ 10 := lebF_len 10 n
theorem lebBytes_small (n : Nat) (h : n < 128) : (lebBytes n).length = 1 := by
  show (lebF 10 n).length = 1
  rw [lebF, if_pos h]; rfl
/-- Both sizes, and what stands behind. -/
theorem sizesOf_made (m n : Nat) (hm : m ≤ 4611686018427387903) (hn : n ≤ 4611686018427387903) (S : List Int) : sizesOf (lebBytes m ++ lebBytes n ++ S) = (m, n, (lebBytes m).length + (lebBytes n).length, 0) := by
  have h1 : lebOf (lebBytes m ++ lebBytes n ++ S) = (m, (lebBytes m).length, 0) := by rw [List.append_assoc]; exact lebOf_back m hm _
  have h2 : (lebBytes m ++ lebBytes n ++ S).drop (lebBytes m).length = lebBytes n ++ S := by rw [List.append_assoc, List.drop_left]
  unfold sizesOf
  rw [h1]
  simp only [ne_eq, not_true_eq_false, if_false, h2]
  rw [lebOf_back n hn S]
  simp
end Go.Proofs.Ytkpnmagcmpljoaa
