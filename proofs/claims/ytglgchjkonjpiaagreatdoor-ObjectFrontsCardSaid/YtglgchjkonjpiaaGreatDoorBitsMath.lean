/- Bits that are gathered into bytes, plainly. -/
import Derived.Test.YtglgchjkonjpiaaGreatDoorBase
namespace Go.Proofs.YtglgchjkonjpiaaGreatDoor
set_option linter.unusedVariables false
namespace Plain
/-- The first k bytes of a number. -/
def bytesN (V k : Nat) : List Int := (List.range k).map fun i => ((V / 2 ^ (8 * i) % 256 : Nat) : Int)
theorem bytesN_len (V k : Nat) : (bytesN V k).length = k := by simp [bytesN]
theorem bytesN_succ (V k : Nat) : bytesN V (k + 1) = bytesN V k ++ [((V / 2 ^ (8 * k) % 256 : Nat) : Int)] := by
  unfold bytesN; rw [List.range_succ, List.map_append]; rfl
theorem bytesN_range (V k : Nat) : ∀ x ∈ bytesN V k, 0 ≤ x ∧ x ≤ 255 := fun x hx => by
  unfold bytesN at hx
  obtain ⟨i, -, rfl⟩ := List.mem_map.1 hx
  omega
theorem pow8 (k : Nat) : (2 : Nat) ^ (8 * (k + 1)) = 2 ^ (8 * k) * 256 := by rw [Nat.mul_add, Nat.pow_add]
/-- More bits behind change no whole byte ahead. -/
theorem div_low (V T x i : Nat) (h : 8 * (i + 1) ≤ T) : (V + x * 2 ^ T) / 2 ^ (8 * i) % 256 = V / 2 ^ (8 * i) % 256 := by
  obtain ⟨j, rfl⟩ : ∃ j, T = 8 * i + (8 + j) := ⟨T - 8 * (i + 1), by omega⟩
  have e : x * 2 ^ (8 * i + (8 + j)) = 2 ^ (8 * i) * (256 * (x * 2 ^ j)) := by
    rw [Nat.pow_add, Nat.pow_add, show (2 : Nat) ^ 8 = 256 from rfl]
    rw [Nat.mul_left_comm, Nat.mul_left_comm x 256]
  rw [e, Nat.add_mul_div_left _ _ (Nat.two_pow_pos _), Nat.add_mul_mod_self_left]
theorem bytesN_more (V T x : Nat) : ∀ k, 8 * k ≤ T → bytesN (V + x * 2 ^ T) k = bytesN V k
  | 0, _ => rfl
  | k + 1, h => by rw [bytesN_succ, bytesN_succ, bytesN_more V T x k (by omega), div_low V T x k h]
theorem held_more (V T x : Nat) : (V + x * 2 ^ T) / 2 ^ (8 * (T / 8)) = V / 2 ^ (8 * (T / 8)) + x * 2 ^ (T % 8) := by
  have e : x * 2 ^ T = 2 ^ (8 * (T / 8)) * (x * 2 ^ (T % 8)) := by
    rw [Nat.mul_left_comm, ← Nat.pow_add, show 8 * (T / 8) + T % 8 = T by omega]
  rw [e, Nat.add_mul_div_left _ _ (Nat.two_pow_pos _)]
theorem held_lt {V T : Nat} (h : V < 2 ^ T) : V / 2 ^ (8 * (T / 8)) < 2 ^ (T % 8) := by
  rw [Nat.div_lt_iff_lt_mul (Nat.two_pow_pos _), ← Nat.pow_add, show T % 8 + 8 * (T / 8) = T by omega]
  exact h
theorem held_next (V k : Nat) : V / 2 ^ (8 * k) / 256 = V / 2 ^ (8 * (k + 1)) := by rw [pow8, Nat.div_div_eq_div_mul]
theorem more_lt {V T x n : Nat} (h : V < 2 ^ T) (hx : x < 2 ^ n) : V + x * 2 ^ T < 2 ^ (T + n) := by
  rw [Nat.add_comm T n, Nat.pow_add]
  have : (x + 1) * 2 ^ T ≤ 2 ^ n * 2 ^ T := Nat.mul_le_mul_right _ hx
  rw [Nat.succ_mul] at this
  omega
/-- The bytes, as one number again. -/
theorem stream_bytesN (V : Nat) : ∀ k, streamN (bytesN V k) = V % 2 ^ (8 * k)
  | 0 => by simp [bytesN, streamN, Nat.mod_one]
  | k + 1 => by
    have app : ∀ (c : List Int) (b : Int), streamN (c ++ [b]) = streamN c + 256 ^ c.length * b.toNat := fun c b => by
      induction c with
      | nil => simp [streamN]
      | cons y t ih => rw [List.cons_append, streamN, streamN, ih, List.length_cons, Nat.pow_succ, Nat.mul_add, ← Nat.mul_assoc, Nat.mul_comm 256 (256 ^ t.length)]; omega
    rw [bytesN_succ, app, stream_bytesN V k, bytesN_len, Int.toNat_natCast, show (256 : Nat) = 2 ^ 8 from rfl, ← Nat.pow_mul, Nat.mul_add, Nat.mul_one, Nat.pow_add, Nat.mod_mul]
/-- What was put at a place is read there. -/
theorem bits_read {V x T n : Nat} (hV : V < 2 ^ T) (hx : x < 2 ^ n) (y : Nat) : (V + x * 2 ^ T + y * 2 ^ (T + n)) / 2 ^ T % 2 ^ n = x := by
  have e : V + x * 2 ^ T + y * 2 ^ (T + n) = V + 2 ^ T * (x + 2 ^ n * y) := by
    rw [Nat.pow_add, Nat.mul_add, Nat.mul_comm x, ← Nat.mul_assoc, Nat.mul_comm y, Nat.mul_assoc, Nat.add_assoc, Nat.mul_comm y]
  rw [e, Nat.add_mul_div_left _ _ (Nat.two_pow_pos _), Nat.div_eq_of_lt hV, Nat.zero_add, Nat.add_mul_mod_self_left, Nat.mod_eq_of_lt hx]
end Plain
/-- What is held, or the next bits above it. -/
theorem or_held2 (h y r : Nat) (hh : h < 2 ^ r) (hy : y < 4294967296) (hr : r ≤ 8) : bits .or .u64 (h : Int) (IntKind.u64.wrap ((y : Int) * 2 ^ r)) = ((h + y * 2 ^ r : Nat) : Int) := by
  have hp : 2 ^ r ≤ 256 := by have := Nat.pow_le_pow_right (n := 2) (by omega) hr; simpa using this
  have hm : y * 2 ^ r ≤ 4294967295 * 256 := Nat.mul_le_mul (by omega) hp
  have ey : (y : Int) * 2 ^ r = ((y * 2 ^ r : Nat) : Int) := by simp
  rw [ey]
  have ew : IntKind.u64.wrap ((y * 2 ^ r : Nat) : Int) = ((y * 2 ^ r : Nat) : Int) := by rw [IntKind.wrap_u64]; omega
  rw [ew]
  show IntKind.u64.wrap ((BitVec.ofInt 64 _ ||| BitVec.ofInt 64 _ : BitVec 64).toNat : Int) = _
  rw [BitVec.toNat_or, BitVec.toNat_ofInt, BitVec.toNat_ofInt]
  have e1 : (((h : Nat) : Int) % ((2 ^ 64 : Nat) : Int)).toNat = h := by omega
  have e2 : (((y * 2 ^ r : Nat) : Int) % ((2 ^ 64 : Nat) : Int)).toNat = y <<< r := by rw [Nat.shiftLeft_eq]; omega
  rw [e1, e2, Nat.or_comm, ← Nat.shiftLeft_add_eq_or_of_lt hh, Nat.shiftLeft_eq, IntKind.wrap_u64]
  omega
end Go.Proofs.YtglgchjkonjpiaaGreatDoor
