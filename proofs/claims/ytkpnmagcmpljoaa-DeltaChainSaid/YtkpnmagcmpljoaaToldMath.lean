/- A copy as it is written: what it tells. -/
import Derived.Test.YtkpnmagcmpljoaaMath
namespace Go.Proofs.Ytkpnmagcmpljoaa
set_option linter.unusedVariables false
namespace Plain
def dig (x i : Nat) : Nat := x / 2 ^ (8 * i) % 256
def digL (x i : Nat) : List Int := if dig x i = 0 then [] else [(dig x i : Int)]
def bytesFrom (x : Nat) : Nat → Nat → List Int
  | _, 0 => []
  | i, f + 1 => digL x i ++ bytesFrom x (i + 1) f
def maskN (x : Nat) : Nat → Nat
  | 0 => 0
  | i + 1 => maskN x i + if dig x i = 0 then 0 else 2 ^ i
/-- A copy's bytes. -/
def toldOf (x : Nat) : List Int := ((128 + maskN x 7 : Nat) : Int) :: bytesFrom x 0 7
end Plain
open Plain
theorem bytesFrom_end (x : Nat) : ∀ (f i : Nat), bytesFrom x i (f + 1) = bytesFrom x i f ++ digL x (i + f)
  | 0, i => by simp [bytesFrom]
  | f + 1, i => by
    rw [bytesFrom, bytesFrom_end x f (i + 1), bytesFrom, List.append_assoc, show i + 1 + f = i + (f + 1) by omega]
theorem maskN_lt (x : Nat) : ∀ i, maskN x i < 2 ^ i
  | 0 => by simp [maskN]
  | i + 1 => by
    have := maskN_lt x i
    have h2 : 2 ^ (i + 1) = 2 ^ i * 2 := Nat.pow_succ 2 i
    rw [maskN, h2]
    split <;> omega
theorem digL_len (x i : Nat) : (digL x i).length ≤ 1 := by unfold digL; split <;> simp
theorem bytesFrom_len (x : Nat) : ∀ f i, (bytesFrom x i f).length ≤ f
  | 0, i => by simp [bytesFrom]
  | f + 1, i => by
    have := bytesFrom_len x f (i + 1)
    have h2 := digL_len x i
    rw [bytesFrom, List.length_append]; omega
theorem mod_step (y a : Nat) (ha : 0 < a) : y % (256 * a) = y % 256 + 256 * (y / 256 % a) := Nat.mod_mul
theorem told_skip (c f i : Nat) (d : List Int) (s : Nat) (h : c / 2 ^ i % 2 = 0) : gat c (f + 1) i d s = gat c f (i + 1) d s := by
  cases d <;> simp only [gat, if_pos h]
theorem told_take (c f i : Nat) (y : Int) (d : List Int) (s : Nat) (h : ¬ c / 2 ^ i % 2 = 0) : gat c (f + 1) i (y :: d) s = gat c f (i + 1) d (s + y.toNat * 2 ^ (8 * i)) := by
  simp only [gat, if_neg h]
theorem gat_told (c x : Nat) (rest : List Int) : ∀ (f i s : Nat), (∀ j, i ≤ j → j < i + f → (c / 2 ^ j % 2 = 0 ↔ dig x j = 0)) →
    gat c f i (bytesFrom x i f ++ rest) s = some (s + x / 2 ^ (8 * i) % 2 ^ (8 * f) * 2 ^ (8 * i), rest)
  | 0, i, s, h => by simp [gat, bytesFrom, Nat.mod_one]
  | f + 1, i, s, h => by
    have hi := h i (Nat.le_refl _) (by omega)
    have ih := fun s' => gat_told c x rest f (i + 1) s' (fun j h1 h2 => h j (by omega) (by omega))
    have e1 : 2 ^ (8 * (f + 1)) = 256 * 2 ^ (8 * f) := by rw [show 8 * (f + 1) = 8 * f + 8 by omega, Nat.pow_add]; omega
    have e2 : 2 ^ (8 * (i + 1)) = 2 ^ (8 * i) * 256 := by rw [show 8 * (i + 1) = 8 * i + 8 by omega, Nat.pow_add]
    have e3 : x / 2 ^ (8 * i) % 2 ^ (8 * (f + 1)) * 2 ^ (8 * i) = dig x i * 2 ^ (8 * i) + x / 2 ^ (8 * (i + 1)) % 2 ^ (8 * f) * 2 ^ (8 * (i + 1)) := by
      rw [e1, mod_step _ _ (Nat.pow_pos (by omega)), Nat.add_mul, e2, ← Nat.div_div_eq_div_mul]
      unfold dig
      rw [Nat.mul_comm 256, Nat.mul_assoc, Nat.mul_comm 256]
    rw [e3]
    by_cases hd : dig x i = 0
    · rw [told_skip _ _ _ _ _ (hi.2 hd), bytesFrom]
      have : digL x i = [] := by unfold digL; rw [if_pos hd]
      rw [this, List.nil_append, ih, hd, Nat.zero_mul, Nat.zero_add]
    · rw [bytesFrom]
      have : digL x i = [(dig x i : Int)] := by unfold digL; rw [if_neg hd]
      rw [this, List.cons_append, List.nil_append, List.cons_append, told_take _ _ _ _ _ _ (fun e => hd (hi.1 e)), ih, Int.toNat_natCast, Nat.add_assoc]
theorem mask_bits (x j : Nat) (hj : j < 7) : (128 + maskN x 7) / 2 ^ j % 2 = 0 ↔ dig x j = 0 := by
  have H : ∀ i, ∃ a, a ≤ 1 ∧ (a = 0 ↔ dig x i = 0) ∧ (if dig x i = 0 then 0 else 2 ^ i) = a * 2 ^ i := fun i => by
    by_cases h : dig x i = 0
    · exact ⟨0, by omega, by simp [h], by simp [h]⟩
    · exact ⟨1, by omega, by simp [h], by simp [h]⟩
  obtain ⟨a0, b0, c0, d0⟩ := H 0
  obtain ⟨a1, b1, c1, d1⟩ := H 1
  obtain ⟨a2, b2, c2, d2⟩ := H 2
  obtain ⟨a3, b3, c3, d3⟩ := H 3
  obtain ⟨a4, b4, c4, d4⟩ := H 4
  obtain ⟨a5, b5, c5, d5⟩ := H 5
  obtain ⟨a6, b6, c6, d6⟩ := H 6
  have e : maskN x 7 = a0 + a1 * 2 + a2 * 4 + a3 * 8 + a4 * 16 + a5 * 32 + a6 * 64 := by
    simp only [maskN, d0, d1, d2, d3, d4, d5, d6]; omega
  rw [e]
  rcases j with _ | _ | _ | _ | _ | _ | _ | j
  · rw [← c0]; omega
  · rw [← c1]; omega
  · rw [← c2]; omega
  · rw [← c3]; omega
  · rw [← c4]; omega
  · rw [← c5]; omega
  · rw [← c6]; omega
  · omega
/-- What is written of a copy is that copy. -/
theorem step_told (base : List Int) (place size : Nat) (hp : place < 4294967296) (hs0 : 0 < size) (hs : size < 16777216) (hb : place + size ≤ base.length) (rest : List Int) :
    stepOf base (toldOf (place + size * 4294967296) ++ rest) = (0, sub base place size, rest) := by
  have hm := maskN_lt (place + size * 4294967296) 7
  have hg := gat_told (128 + maskN (place + size * 4294967296) 7) (place + size * 4294967296) rest 7 0 0 (fun j _ h => mask_bits _ j (by omega))
  have e1 : 0 + (place + size * 4294967296) / 2 ^ (8 * 0) % 2 ^ (8 * 7) * 2 ^ (8 * 0) = place + size * 4294967296 := by
    simp only [Nat.mul_zero, Nat.pow_zero, Nat.div_one, Nat.mul_one, Nat.zero_add]
    exact Nat.mod_eq_of_lt (by omega)
  rw [e1] at hg
  unfold toldOf
  rw [List.cons_append, stepOf, if_pos (by rw [Int.toNat_natCast]; omega), copyOf, Int.toNat_natCast, hg]
  have e2 : (place + size * 4294967296) % 4294967296 = place := by omega
  have e3 : sizeIs (place + size * 4294967296) = size := by
    unfold sizeIs
    rw [show (place + size * 4294967296) / 4294967296 = size by omega, if_neg (by omega)]
  simp only [e2, e3]
  rw [if_neg (by omega)]
theorem toldOf_len (x : Nat) : (toldOf x).length ≤ 8 := by
  have := bytesFrom_len x 7 0
  unfold toldOf; rw [List.length_cons]; omega
end Go.Proofs.Ytkpnmagcmpljoaa
