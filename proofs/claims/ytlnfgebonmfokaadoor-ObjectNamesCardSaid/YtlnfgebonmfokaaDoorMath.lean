/- SHA-1 over rows of 32 bits, plainly: no program is named here. -/
import Derived.WalkKit
import Derived.OpenShut
namespace Go.Proofs.YtlnfgebonmfokaaDoor.Plain
open Go.RowKit
set_option linter.unusedVariables false

/-! ### The machine's operations on 32 bits -/
theorem wrap_u32 (a : BitVec 32) : IntKind.u32.wrap (a.toNat : Int) = (a.toNat : Int) := by
  have := a.isLt
  rw [IntKind.wrap_u32]; omega
theorem of_nat (a : BitVec 32) : BitVec.ofInt 32 (a.toNat : Int) = a := by
  rw [BitVec.ofInt_natCast]; simp
theorem x_or (a b : BitVec 32) : bits .or .u32 (a.toNat : Int) (b.toNat : Int) = ((a ||| b).toNat : Int) := by
  show IntKind.u32.wrap ((BitVec.ofInt 32 _ ||| BitVec.ofInt 32 _ : BitVec 32).toNat : Int) = _
  rw [of_nat, of_nat, wrap_u32]
theorem x_xor (a b : BitVec 32) : bits .xor .u32 (a.toNat : Int) (b.toNat : Int) = ((a ^^^ b).toNat : Int) := by
  show IntKind.u32.wrap ((BitVec.ofInt 32 _ ^^^ BitVec.ofInt 32 _ : BitVec 32).toNat : Int) = _
  rw [of_nat, of_nat, wrap_u32]
theorem x_and (a b : BitVec 32) : bits .and .u32 (a.toNat : Int) (b.toNat : Int) = ((a &&& b).toNat : Int) := by
  show IntKind.u32.wrap ((BitVec.ofInt 32 _ &&& BitVec.ofInt 32 _ : BitVec 32).toNat : Int) = _
  rw [of_nat, of_nat, wrap_u32]
theorem x_add (a b : BitVec 32) : ((a.toNat : Int) + (b.toNat : Int)) % 4294967296 = ((a + b).toNat : Int) := by
  rw [BitVec.toNat_add]; omega
def rotl (a : BitVec 32) (n : Nat) : BitVec 32 := (a <<< n) ||| (a >>> (32 - n))
theorem x_shl (a : BitVec 32) (n : Nat) : ((a.toNat : Int) * (2 ^ n : Nat)) % 4294967296 = ((a <<< n).toNat : Int) := by
  rw [BitVec.toNat_shiftLeft, Nat.shiftLeft_eq]; omega
theorem x_shr (a : BitVec 32) (n : Nat) : (a.toNat : Int) / (2 ^ n : Nat) = ((a >>> n).toNat : Int) := by
  rw [BitVec.toNat_ushiftRight, Nat.shiftRight_eq_div_pow]; omega

theorem x_rot (x : BitVec 32) (n p q : Nat) (hp : p = 2 ^ n) (hq : q = 2 ^ (32 - n)) : bits .or .u32 (((x.toNat : Int) * (p : Int)) % 4294967296) ((x.toNat : Int) / (q : Int)) = ((rotl x n).toNat : Int) := by
  subst hp hq
  rw [x_shl, x_shr, x_or]; rfl
theorem x_rot5 (x : BitVec 32) : bits .or .u32 ((x.toNat : Int) * 32 % 4294967296) ((x.toNat : Int) / (134217728 : Int)) = ((rotl x 5).toNat : Int) := x_rot x 5 32 134217728 rfl rfl
theorem x_rot30 (x : BitVec 32) : bits .or .u32 ((x.toNat : Int) * 1073741824 % 4294967296) ((x.toNat : Int) / (4 : Int)) = ((rotl x 30).toNat : Int) := x_rot x 30 1073741824 4 rfl rfl
theorem x_rot1 (x : BitVec 32) : bits .or .u32 ((x.toNat : Int) * 2 % 4294967296) ((x.toNat : Int) / (2147483648 : Int)) = ((rotl x 1).toNat : Int) := x_rot x 1 2 2147483648 rfl rfl

/-! ### A block -/
structure Five where
  a : BitVec 32
  b : BitVec 32
  c : BitVec 32
  d : BitVec 32
  e : BitVec 32
def round (i : Nat) (x : BitVec 32) (s : Five) : Five :=
  let fk : BitVec 32 × BitVec 32 :=
    if i < 20 then ((s.b &&& s.c) ||| (~~~ s.b &&& s.d), 0x5a827999#32)
    else if i < 40 then (s.b ^^^ s.c ^^^ s.d, 0x6ed9eba1#32)
    else if i < 60 then ((s.b &&& s.c) ||| (s.b &&& s.d) ||| (s.c &&& s.d), 0x8f1bbcdc#32)
    else (s.b ^^^ s.c ^^^ s.d, 0xca62c1d6#32)
  { a := rotl s.a 5 + fk.1 + s.e + fk.2 + x, b := s.a, c := rotl s.b 30, d := s.c, e := s.d }
theorem x_not (b : BitVec 32) : bits .xor .u32 IntKind.u32.max (b.toNat : Int) = ((~~~ b).toNat : Int) := by
  have h := x_xor (BitVec.allOnes 32) b
  rw [show ((BitVec.allOnes 32).toNat : Int) = IntKind.u32.max from rfl, BitVec.allOnes_xor] at h
  exact h
theorem t_eq (r f e K x : BitVec 32) : ((r.toNat : Int) + (f.toNat : Int) + (e.toNat : Int) + (K.toNat : Int) + (x.toNat : Int)) % 4294967296 = ((r + f + e + K + x).toNat : Int) := by
  simp only [BitVec.toNat_add]; omega
theorem round_1 (k : Nat) (h : k < 20) (a b c d e x : BitVec 32) : (((rotl a 5).toNat : Int) + bits .or .u32 (bits .and .u32 (b.toNat : Int) (c.toNat : Int)) (bits .and .u32 (bits .xor .u32 IntKind.u32.max (b.toNat : Int)) (d.toNat : Int)) + (e.toNat : Int) + 1518500249 + (x.toNat : Int)) % 4294967296 = ((round k x ⟨a, b, c, d, e⟩).a.toNat : Int) := by
  rw [x_not, x_and, x_and, x_or]
  have := t_eq (rotl a 5) (b &&& c ||| ~~~b &&& d) e 0x5a827999#32 x
  rw [show ((0x5a827999#32).toNat : Int) = 1518500249 from rfl] at this
  rw [this]
  simp only [round, if_pos h]
theorem round_2 (k : Nat) (h0 : ¬ k < 20) (h : k < 40) (a b c d e x : BitVec 32) : (((rotl a 5).toNat : Int) + bits .xor .u32 (bits .xor .u32 (b.toNat : Int) (c.toNat : Int)) (d.toNat : Int) + (e.toNat : Int) + 1859775393 + (x.toNat : Int)) % 4294967296 = ((round k x ⟨a, b, c, d, e⟩).a.toNat : Int) := by
  rw [x_xor, x_xor]
  have := t_eq (rotl a 5) (b ^^^ c ^^^ d) e 0x6ed9eba1#32 x
  rw [show ((0x6ed9eba1#32).toNat : Int) = 1859775393 from rfl] at this
  rw [this]
  simp only [round, if_neg h0, if_pos h]
theorem round_3 (k : Nat) (h0 : ¬ k < 20) (h1 : ¬ k < 40) (h : k < 60) (a b c d e x : BitVec 32) : (((rotl a 5).toNat : Int) + bits .or .u32 (bits .or .u32 (bits .and .u32 (b.toNat : Int) (c.toNat : Int)) (bits .and .u32 (b.toNat : Int) (d.toNat : Int))) (bits .and .u32 (c.toNat : Int) (d.toNat : Int)) + (e.toNat : Int) + 2400959708 + (x.toNat : Int)) % 4294967296 = ((round k x ⟨a, b, c, d, e⟩).a.toNat : Int) := by
  rw [x_and, x_and, x_and, x_or, x_or]
  have := t_eq (rotl a 5) (b &&& c ||| b &&& d ||| c &&& d) e 0x8f1bbcdc#32 x
  rw [show ((0x8f1bbcdc#32).toNat : Int) = 2400959708 from rfl] at this
  rw [this]
  simp only [round, if_neg h0, if_neg h1, if_pos h]
theorem round_4 (k : Nat) (h0 : ¬ k < 20) (h1 : ¬ k < 40) (h : ¬ k < 60) (a b c d e x : BitVec 32) : (((rotl a 5).toNat : Int) + bits .xor .u32 (bits .xor .u32 (b.toNat : Int) (c.toNat : Int)) (d.toNat : Int) + (e.toNat : Int) + 3395469782 + (x.toNat : Int)) % 4294967296 = ((round k x ⟨a, b, c, d, e⟩).a.toNat : Int) := by
  rw [x_xor, x_xor]
  have := t_eq (rotl a 5) (b ^^^ c ^^^ d) e 0xca62c1d6#32 x
  rw [show ((0xca62c1d6#32).toNat : Int) = 3395469782 from rfl] at this
  rw [this]
  simp only [round, if_neg h0, if_neg h1, if_neg h]
def rounds (w : List (BitVec 32)) (s : Five) : Nat → Five
  | 0 => s
  | i + 1 => round i (w[i]?.getD 0) (rounds w s i)
def Five.add (s t : Five) : Five := { a := s.a + t.a, b := s.b + t.b, c := s.c + t.c, d := s.d + t.d, e := s.e + t.e }
def mix (h : Five) (w : List (BitVec 32)) : Five := h.add (rounds w h 80)
/-- The words of a block of 64 bytes, one more at a time. -/
def word0 (bs : List Int) (i : Nat) : BitVec 32 :=
  BitVec.ofInt 32 (bs[4 * i]?.getD 0 * 16777216 + bs[4 * i + 1]?.getD 0 * 65536 + bs[4 * i + 2]?.getD 0 * 256 + bs[4 * i + 3]?.getD 0)
def wordsTo (bs : List Int) : Nat → List (BitVec 32)
  | 0 => []
  | i + 1 =>
    let w := wordsTo bs i
    w ++ [if i < 16 then word0 bs i else rotl (w[i - 3]?.getD 0 ^^^ w[i - 8]?.getD 0 ^^^ w[i - 14]?.getD 0 ^^^ w[i - 16]?.getD 0) 1]
theorem wordsTo_length (bs : List Int) (i : Nat) : (wordsTo bs i).length = i := by
  induction i with
  | zero => rfl
  | succ i ih => simp [wordsTo, ih]
def compress (h : Five) (bs : List Int) : Five := mix h (wordsTo bs 80)
/-! ### Bytes, one by one -/
theorem or_add (hi lo j : Nat) (hlo : lo < 2 ^ j) (hs : hi * 2 ^ j + lo < 4294967296) : bits .or .u32 ((hi * 2 ^ j : Nat) : Int) (lo : Int) = ((hi * 2 ^ j + lo : Nat) : Int) := by
  have h1 : ((BitVec.ofNat 32 (hi * 2 ^ j)).toNat : Int) = ((hi * 2 ^ j : Nat) : Int) := by rw [BitVec.toNat_ofNat, Nat.mod_eq_of_lt (by omega)]
  have h2 : ((BitVec.ofNat 32 lo).toNat : Int) = (lo : Int) := by rw [BitVec.toNat_ofNat, Nat.mod_eq_of_lt (by omega)]
  rw [← h1, ← h2, x_or, BitVec.toNat_or, BitVec.toNat_ofNat, BitVec.toNat_ofNat, Nat.mod_eq_of_lt (by omega), Nat.mod_eq_of_lt (by omega), ← Nat.shiftLeft_eq, ← Nat.shiftLeft_add_eq_or_of_lt hlo, Nat.shiftLeft_eq]
theorem word_eq (x0 x1 x2 x3 : Int) (h0 : 0 ≤ x0 ∧ x0 ≤ 255) (h1 : 0 ≤ x1 ∧ x1 ≤ 255) (h2 : 0 ≤ x2 ∧ x2 ≤ 255) (h3 : 0 ≤ x3 ∧ x3 ≤ 255) :
    bits .or .u32 (bits .or .u32 (bits .or .u32 (x0 * 16777216) (x1 * 65536)) (x2 * 256)) x3 = ((BitVec.ofInt 32 (x0 * 16777216 + x1 * 65536 + x2 * 256 + x3)).toNat : Int) := by
  obtain ⟨a, rfl⟩ := Int.eq_ofNat_of_zero_le h0.1
  obtain ⟨b, rfl⟩ := Int.eq_ofNat_of_zero_le h1.1
  obtain ⟨c, rfl⟩ := Int.eq_ofNat_of_zero_le h2.1
  obtain ⟨d, rfl⟩ := Int.eq_ofNat_of_zero_le h3.1
  have e1 := or_add a (b * 65536) 24 (by omega) (by omega)
  have e2 := or_add (a * 256 + b) (c * 256) 16 (by omega) (by omega)
  have e3 := or_add ((a * 256 + b) * 256 + c) d 8 (by omega) (by omega)
  rw [show ((a : Int) * 16777216) = ((a * 2 ^ 24 : Nat) : Int) by omega, show ((b : Int) * 65536) = ((b * 65536 : Nat) : Int) by omega, e1,
    show ((c : Int) * 256) = ((c * 256 : Nat) : Int) by omega, show a * 2 ^ 24 + b * 65536 = (a * 256 + b) * 2 ^ 16 by omega, e2,
    show (a * 256 + b) * 2 ^ 16 + c * 256 = ((a * 256 + b) * 256 + c) * 2 ^ 8 by omega, e3, BitVec.toNat_ofInt]
  omega
structure State where
  h : Five
  buf : List Int
def step (s : State) (x : Int) : State :=
  if s.buf.length + 1 = 64 then { h := compress s.h (s.buf ++ [x]), buf := [] } else { h := s.h, buf := s.buf ++ [x] }
def absorb (s : State) (xs : List Int) : State := xs.foldl step s
theorem absorb_append (s : State) (xs ys : List Int) : absorb s (xs ++ ys) = absorb (absorb s xs) ys := by
  unfold absorb; rw [List.foldl_append]
def start : State := { h := { a := 0x67452301#32, b := 0xefcdab89#32, c := 0x98badcfe#32, d := 0x10325476#32, e := 0xc3d2e1f0#32 }, buf := [] }
/-- What stands behind n bytes. -/
def ending (n : Nat) : List Int :=
  [128] ++ List.replicate ((119 - n % 64) % 64) 0 ++ (List.range 8).map fun i => (((n * 8) / 2 ^ (56 - 8 * i) % 256 : Nat) : Int)
def byteOf (x : BitVec 32) (k : Nat) : Int := ((x.toNat / 2 ^ (24 - 8 * k) % 256 : Nat) : Int)
def told (h : Five) : List Int := [h.a, h.b, h.c, h.d, h.e].flatMap fun x => [byteOf x 0, byteOf x 1, byteOf x 2, byteOf x 3]
def sum (xs : List Int) : List Int := told (absorb start (xs ++ ending xs.length)).h
end Go.Proofs.YtlnfgebonmfokaaDoor.Plain
