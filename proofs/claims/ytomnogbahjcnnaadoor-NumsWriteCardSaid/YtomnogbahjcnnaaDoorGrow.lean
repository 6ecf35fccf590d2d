/- Greater numbers have no fewer bytes; an offset's row is one number's alone; a number's digits: the walk. -/
import Derived.Test.YtomnogbahjcnnaaDoorOfs2
import Derived.Test.YtomnogbahjcnnaaDoorItoa
import Derived.Lib.ItoaMem
namespace Go.Proofs.YtomnogbahjcnnaaDoor
open Go.RowKit Plain
set_option linter.unusedVariables false
namespace Plain
theorem lebF_mono : ∀ f n m, n ≤ m → (lebF f n).length ≤ (lebF f m).length
  | 0, n, m, h => by simp [lebF]
  | f + 1, n, m, h => by
    rw [lebF, lebF]
    by_cases h1 : n < 128
    · rw [if_pos h1]
      split
      · simp
      · simp
    · rw [if_neg h1, if_neg (by omega)]
      have := lebF_mono f (n / 128) (m / 128) (Nat.div_le_div_right h)
      simp only [List.length_cons]; omega
theorem ofsF_mono : ∀ f n m, n ≤ m → (ofsF f n).length ≤ (ofsF f m).length
  | 0, n, m, h => by simp [ofsF]
  | f + 1, n, m, h => by
    rw [ofsF, ofsF]
    by_cases h1 : n < 128
    · rw [if_pos h1]
      simp
    · rw [if_neg h1, if_neg (by omega)]
      have h2 : n / 128 ≤ m / 128 := Nat.div_le_div_right h
      have := ofsF_mono f (n / 128 - 1) (m / 128 - 1) (by omega)
      simp only [List.length_cons]; omega
theorem ofsBytes_mono (n m : Nat) (h : n ≤ m) : (ofsBytes n).length ≤ (ofsBytes m).length := by
  have := ofsF_mono 9 n m h
  unfold ofsBytes ofsRise
  simp only [List.length_reverse, List.length_cons]; omega
theorem headBytes_mono (k n m : Nat) (h : n ≤ m) : (headBytes k n).length ≤ (headBytes k m).length := by
  unfold headBytes
  by_cases h1 : n < 16
  · rw [if_pos h1]
    split <;> simp
  · rw [if_neg h1, if_neg (by omega)]
    have := lebF_mono 10 (n / 16) (m / 16) (Nat.div_le_div_right h)
    unfold lebBytes
    simp only [List.length_cons]; omega
theorem nDigits_mono : ∀ (m n : Nat), n ≤ m → Lib.nDigits n ≤ Lib.nDigits m := by
  intro m
  induction m using Nat.strongRecOn with
  | ind m ih =>
    intro n h
    rw [Lib.nDigits.eq_def n, Lib.nDigits.eq_def m]
    by_cases h1 : n < 10
    · rw [dif_pos h1]
      split <;> omega
    · rw [dif_neg h1, dif_neg (by omega)]
      have := ih (m / 10) (by omega) (n / 10) (Nat.div_le_div_right h)
      omega
theorem itoa_mono (n m : Nat) (h : n ≤ m) : (Lib.itoa (n : Int)).length ≤ (Lib.itoa (m : Int)).length := by
  rw [Lib.itoa_nonneg, Lib.itoa_nonneg, Lib.decDigits_length, Lib.decDigits_length]
  exact nDigits_mono m n h
/-- Fuel doesn't matter where there is enough. -/
theorem ofsF_fuel : ∀ f n, n < 128 ^ (f + 1) → ofsF f n = ofsF (f + 1) n
  | 0, n, h => by
    rw [ofsF, ofsF, if_pos (by simpa using h)]
  | f + 1, n, h => by
    rw [ofsF, ofsF]
    by_cases h1 : n < 128
    · rw [if_pos h1, if_pos h1]
    · rw [if_neg h1, if_neg h1]
      have e : n / 128 < 128 ^ (f + 1) := by
        rw [Nat.div_lt_iff_lt_mul (by omega)]
        rwa [Nat.pow_succ] at h
      rw [ofsF_fuel f (n / 128 - 1) (by omega)]
/-- What has been read, where more follows. -/
def goesOn (n : Nat) : List Int := (ofsF 9 n).reverse ++ [((n % 128 + 128 : Nat) : Int)]
theorem ofsF_next (n d : Nat) (hn : n ≤ 36028797018963966) (hd : d < 128) : (ofsF 9 ((n + 1) * 128 + d)).reverse = goesOn n := by
  unfold goesOn
  have e : ((n + 1) * 128 + d) / 128 = n + 1 := by omega
  rw [ofsF, if_neg (by omega), e, Nat.add_sub_cancel, List.reverse_cons, ofsF_fuel 8 n (by
    have : (128 : Nat) ^ (8 + 1) = 9223372036854775808 := by decide
    omega)]
theorem ofsGo_bytes : ∀ (xs : List Int) (i n : Nat) (pre : List Int), (∀ x ∈ xs, 0 ≤ x ∧ x ≤ 255) → (0 < i → pre = goesOn n) → (i = 0 → n = 0 ∧ pre = []) → pre.length = i → (ofsGo xs i n).2.2 = 0 →
    ofsBytes (ofsGo xs i n).1 = (pre ++ xs).take (ofsGo xs i n).2.1 ∧ (ofsGo xs i n).1 ≤ 4611686018427387903 ∧ (ofsGo xs i n).2.1 ≤ i + xs.length
  | [], i, n, pre, hx, h1, h0, hl, he => by simp [ofsGo] at he
  | x :: t, i, n, pre, hx, h1, h0, hl, he => by
    obtain ⟨y, rfl⟩ := Int.eq_ofNat_of_zero_le (hx x (by simp)).1
    have hy : y ≤ 255 := by have := (hx _ (List.mem_cons_self)).2; omega
    rw [ofsGo] at he ⊢
    rw [Int.toNat_natCast] at he ⊢
    obtain ⟨q, hq⟩ : ∃ q, (if 0 < i then n + 1 else n) = q := ⟨_, rfl⟩
    rw [hq] at he ⊢
    by_cases hc : 12 ≤ i ∨ 36028797018963967 < q
    · rw [if_pos hc] at he; simp at he
    · rw [if_neg hc] at he ⊢
      have hd : y % 128 < 128 := Nat.mod_lt _ (by omega)
      -- what was read so far, as the bytes behind the last one of the new number
      have key : (ofsF 9 (q * 128 + y % 128)).reverse = pre := by
        by_cases hi : 0 < i
        · rw [if_pos hi] at hq
          rw [← hq, h1 hi]
          exact ofsF_next n _ (by omega) hd
        · obtain ⟨rfl, rfl⟩ := h0 (by omega)
          rw [if_neg hi] at hq
          subst hq
          rw [ofsF, if_pos (by omega)]
          rfl
      have hm : (q * 128 + y % 128) % 128 = y % 128 := by omega
      by_cases hy8 : y < 128
      · rw [if_pos hy8] at he ⊢
        refine ⟨?_, by simp only; omega, by simp only [List.length_cons]; omega⟩
        show ofsBytes (q * 128 + y % 128) = (pre ++ ((y : Nat) : Int) :: t).take (i + 1)
        unfold ofsBytes ofsRise
        rw [List.reverse_cons, key, hm, Nat.mod_eq_of_lt hy8, ← hl]
        simp [List.take_append, List.take_of_length_le (show pre.length ≤ pre.length + 1 by omega)]
      · rw [if_neg hy8] at he ⊢
        have hg : pre ++ [((y : Nat) : Int)] = goesOn (q * 128 + y % 128) := by
          unfold goesOn
          rw [key, hm, show y % 128 + 128 = y by omega]
        obtain ⟨g1, g2, g3⟩ := ofsGo_bytes t (i + 1) (q * 128 + y % 128) (pre ++ [((y : Nat) : Int)]) (fun z hz => hx z (List.mem_cons_of_mem _ hz)) (fun _ => hg) (fun h => by omega) (by simp; omega) he
        refine ⟨?_, g2, by simp only [List.length_cons]; omega⟩
        rw [g1, List.append_assoc]
        rfl
theorem ofsGo_err : ∀ (xs : List Int) (i n : Nat), (ofsGo xs i n).2.2 = 0 ∨ (ofsGo xs i n).2.2 = 2 ∨ (ofsGo xs i n).2.2 = 3
  | [], i, n => by simp [ofsGo]
  | x :: t, i, n => by
    rw [ofsGo]
    generalize (if 0 < i then n + 1 else n) = q
    by_cases h1 : 12 ≤ i ∨ 36028797018963967 < q
    · rw [if_pos h1]; simp
    · rw [if_neg h1]
      by_cases h2 : x.toNat < 128
      · rw [if_pos h2]; simp
      · rw [if_neg h2]; exact ofsGo_err t _ _
theorem ofsOf_bytes (xs : List Int) (hx : ∀ x ∈ xs, 0 ≤ x ∧ x ≤ 255) (he : (ofsOf xs).2.2 = 0) : ofsBytes (ofsOf xs).1 = xs.take (ofsOf xs).2.1 ∧ (ofsOf xs).1 ≤ 4611686018427387903 ∧ (ofsOf xs).2.1 ≤ xs.length := by
  have := ofsGo_bytes xs 0 0 [] hx (fun h => by omega) (fun _ => ⟨rfl, rfl⟩) rfl he
  simpa [ofsOf] using this
end Plain
theorem below_grow (w : World) (k : Nat) (os : Array Obj) : Below w.heap.size w (Sort.grow (w.drewN k) os) := by
  refine ⟨rfl, rfl, rfl, ?_, fun i hi => ?_⟩
  · show w.heap.size ≤ (w.heap ++ os).size
    simp
  · show (w.heap ++ os)[i]? = w.heap[i]?
    exact Array.getElem?_append_left hi
theorem dec_any (n : Nat) (hn : n ≤ 4611686018427387903) (w : World) (htab : Lib.TabIs Tryd.prog w "internal/strconv.uint64pow10" .u64 Lib.pow10Tab) :
    Calls Tryd.prog 17 #[.int .i64 (n : Int)] w fun e w' => e = .returned (.string ⟨(Lib.itoa (n : Int)).toArray⟩) ∧ Below w.heap.size w w' := by
  go_enter Tryd.func17, Tryd.ntmps17
  go_wp2_with fail
  refine (Tryd.strconv_Itoa (n : Int) (by omega) (by omega) w htab).mono ?_
  rintro e w2 ⟨rfl, k, os, rfl⟩
  have HB : Hid (Below w.heap.size w (Sort.grow (w.drewN k) os)) := below_grow w k os
  go_wp2_with fail
  go_ret
  exact ⟨rfl, HB.out⟩
end Go.Proofs.YtomnogbahjcnnaaDoor
