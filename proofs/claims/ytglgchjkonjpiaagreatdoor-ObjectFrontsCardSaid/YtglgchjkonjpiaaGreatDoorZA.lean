/- Plain facts on Adler's sum and on the CRC, over lists of numbers and rows of 32 bits: no program is named here. -/
import Derived.WalkKit
import Derived.Test.YtglgchjkonjpiaaGreatDoorRows
import Derived.Outline
import Derived.Test.YtglgchjkonjpiaaGreatDoorBase
import Derived.ProofKit
import Derived.OpenShut
import Derived.Below
import Derived.LoopN
import Derived.Lib.SmallJoins
/-! Plain facts on Adler's sum and on the CRC, over lists of numbers and rows of 32 bits: no program is named here. -/
namespace Go.Proofs.YtglgchjkonjpiaaGreatDoor.Plain
open Go.RowKit
set_option linter.unusedVariables false

/-! ### Adler's sum -/
def adStep (p : Int × Int) (x : Int) : Int × Int := ((p.1 + x) % 65521, (p.2 + (p.1 + x) % 65521) % 65521)
def adRun (p : Int × Int) (xs : List Int) : Int × Int := xs.foldl adStep p
def adOut (p : Int × Int) : Int := p.2 * 65536 + p.1
def ad (s : Int) (xs : List Int) : Int := adOut (adRun (s % 65536, s / 65536) xs)

def Low (p : Int × Int) : Prop := 0 ≤ p.1 ∧ p.1 ≤ 65535 ∧ 0 ≤ p.2 ∧ p.2 ≤ 65535
theorem low_start (s : Int) (h0 : 0 ≤ s) (h1 : s ≤ 4294967295) : Low (s % 65536, s / 65536) := by
  unfold Low; simp only; omega
theorem low_step {p : Int × Int} (h : Low p) (x : Int) : Low (adStep p x) := by
  unfold Low adStep at *; simp only; omega
theorem low_run (xs : List Int) : ∀ {p : Int × Int}, Low p → Low (adRun p xs) := by
  induction xs with
  | nil => intro p h; exact h
  | cons x xs ih => intro p h; exact ih (low_step h x)
theorem ad_range {s : Int} (h0 : 0 ≤ s) (h1 : s ≤ 4294967295) (xs : List Int) : 0 ≤ ad s xs ∧ ad s xs ≤ 4294967295 := by
  have h := low_run xs (low_start s h0 h1)
  unfold ad adOut
  generalize adRun (s % 65536, s / 65536) xs = p at *
  unfold Low at h; omega
theorem adRun_snoc (p : Int × Int) (xs : List Int) (x : Int) : adRun p (xs ++ [x]) = adStep (adRun p xs) x := by
  unfold adRun; rw [List.foldl_append]; rfl
theorem adRun_append (p : Int × Int) (xs ys : List Int) : adRun p (xs ++ ys) = adRun (adRun p xs) ys := by
  unfold adRun; rw [List.foldl_append]
theorem ad_append {s : Int} (h0 : 0 ≤ s) (h1 : s ≤ 4294967295) (xs ys : List Int) : ad (ad s xs) ys = ad s (xs ++ ys) := by
  have h := low_run xs (low_start s h0 h1)
  unfold ad
  rw [adRun_append]
  generalize adRun (s % 65536, s / 65536) xs = p at *
  obtain ⟨a, b⟩ := p
  unfold Low at h
  simp only at h
  have e1 : adOut (a, b) % 65536 = a := by unfold adOut; simp only; omega
  have e2 : adOut (a, b) / 65536 = b := by unfold adOut; simp only; omega
  rw [e1, e2]
theorem take_succ_getD (zs : List Int) (k : Nat) (h : k < zs.length) : zs.take (k + 1) = zs.take k ++ [zs[k]?.getD 0] := by
  rw [List.take_succ_eq_append_getElem h, List.getElem?_eq_getElem h]; rfl

theorem ad_one (xs : List Int) : ∃ a b : Int, adRun (1, 0) xs = (a, b) ∧ 0 ≤ a ∧ a ≤ 65520 ∧ 0 ≤ b ∧ b ≤ 65520 := by
  have h : ∀ (ys : List Int) (a b : Int), 0 ≤ a → a ≤ 65520 → 0 ≤ b → b ≤ 65520 → ∃ c d : Int, adRun (a, b) ys = (c, d) ∧ 0 ≤ c ∧ c ≤ 65520 ∧ 0 ≤ d ∧ d ≤ 65520 := by
    intro ys
    induction ys with
    | nil => intro a b h1 h2 h3 h4; exact ⟨a, b, rfl, h1, h2, h3, h4⟩
    | cons y ys ih =>
      intro a b h1 h2 h3 h4
      exact ih ((a + y) % 65521) ((b + (a + y) % 65521) % 65521) (by omega) (by omega) (by omega) (by omega)
  exact h xs 1 0 (by omega) (by omega) (by omega) (by omega)
theorem ad_start : ad 1 = fun xs => adOut (adRun (1, 0) xs) := rfl
theorem ad_zeros : ∀ k : Nat, k < 65521 → adRun (1, 0) (List.replicate k 0) = (1, (k : Int)) := by
  intro k
  induction k with
  | zero => intro _; rfl
  | succ k ih =>
    intro hk
    rw [List.replicate_succ', adRun_snoc, ih (by omega)]
    unfold adStep
    simp only
    rw [show ((1 : Int) + 0) % 65521 = 1 by omega, show ((k : Int) + 1) % 65521 = ((k + 1 : Nat) : Int) by omega]
theorem ad_nought (xs : List Int) : ad 1 (xs ++ [0]) % 65536 = ad 1 xs % 65536 ∧ ad 1 (xs ++ [0]) / 65536 = (ad 1 xs / 65536 + ad 1 xs % 65536) % 65521 := by
  obtain ⟨a, b, h, h1, h2, h3, h4⟩ := ad_one xs
  rw [ad_start]
  simp only [adRun_snoc, h, adStep, adOut]
  rw [show (a + 0) % 65521 = a by omega]
  have e1 : (b * 65536 + a) % 65536 = a := by omega
  have e2 : (b * 65536 + a) / 65536 = b := by omega
  rw [e1, e2]
  have h5 : 0 ≤ (b + a) % 65521 ∧ (b + a) % 65521 < 65521 := by omega
  generalize (b + a) % 65521 = g at *
  omega
/-! ### The CRC, over rows of 32 bits -/
def poly : BitVec 32 := 0xedb88320#32
def crcBit (c : BitVec 32) : BitVec 32 := (c >>> 1) ^^^ (poly &&& (- (c &&& 1#32)))
def crcBits (c : BitVec 32) : Nat → BitVec 32
  | 0 => c
  | k + 1 => crcBit (crcBits c k)
def crcStep (c : BitVec 32) (x : Int) : BitVec 32 := crcBits (c ^^^ BitVec.ofInt 32 x) 8
def crcRun (c : BitVec 32) (xs : List Int) : BitVec 32 := xs.foldl crcStep c
def crc (c : BitVec 32) (xs : List Int) : BitVec 32 := ~~~ (crcRun (~~~ c) xs)
theorem crcRun_snoc (c : BitVec 32) (xs : List Int) (x : Int) : crcRun c (xs ++ [x]) = crcStep (crcRun c xs) x := by
  unfold crcRun; rw [List.foldl_append]; rfl
theorem crc_append (c : BitVec 32) (xs ys : List Int) : crc (crc c xs) ys = crc c (xs ++ ys) := by
  unfold crc crcRun; rw [List.foldl_append, BitVec.not_not]

/-- A number of 32 bits, as the machine's words have it. -/
theorem wrap_u32 (a : BitVec 32) : IntKind.u32.wrap (a.toNat : Int) = (a.toNat : Int) := by
  have := a.isLt
  rw [IntKind.wrap_u32]; omega
theorem of_nat (a : BitVec 32) : BitVec.ofInt 32 (a.toNat : Int) = a := by
  rw [BitVec.ofInt_natCast]; simp
theorem to_bits (s : Int) (h0 : 0 ≤ s) (h1 : s ≤ 4294967295) : s = ((BitVec.ofInt 32 s).toNat : Int) := by
  rw [BitVec.toNat_ofInt]; omega
theorem x_or (a b : BitVec 32) : bits .or .u32 (a.toNat : Int) (b.toNat : Int) = ((a ||| b).toNat : Int) := by
  show IntKind.u32.wrap ((BitVec.ofInt 32 _ ||| BitVec.ofInt 32 _ : BitVec 32).toNat : Int) = _
  rw [of_nat, of_nat, wrap_u32]
theorem x_xor (a b : BitVec 32) : bits .xor .u32 (a.toNat : Int) (b.toNat : Int) = ((a ^^^ b).toNat : Int) := by
  show IntKind.u32.wrap ((BitVec.ofInt 32 _ ^^^ BitVec.ofInt 32 _ : BitVec 32).toNat : Int) = _
  rw [of_nat, of_nat, wrap_u32]
theorem x_and (a b : BitVec 32) : bits .and .u32 (a.toNat : Int) (b.toNat : Int) = ((a &&& b).toNat : Int) := by
  show IntKind.u32.wrap ((BitVec.ofInt 32 _ &&& BitVec.ofInt 32 _ : BitVec 32).toNat : Int) = _
  rw [of_nat, of_nat, wrap_u32]
theorem x_ones (a : BitVec 32) : bits .xor .u32 (a.toNat : Int) 4294967295 = ((~~~ a).toNat : Int) := by
  have h := x_xor a (BitVec.allOnes 32)
  rw [show ((BitVec.allOnes 32).toNat : Int) = 4294967295 from rfl] at h
  rw [h, BitVec.xor_allOnes]
theorem x_not (a : BitVec 32) : 4294967295 - (a.toNat : Int) = ((~~~ a).toNat : Int) := by
  have := a.isLt
  rw [BitVec.toNat_not]; omega
theorem x_byte (a : BitVec 32) (x : Int) (h0 : 0 ≤ x) (h1 : x ≤ 255) : bits .xor .u32 (a.toNat : Int) x = ((a ^^^ BitVec.ofInt 32 x).toNat : Int) := by
  have h := x_xor a (BitVec.ofInt 32 x)
  rwa [← to_bits x h0 (by omega)] at h
theorem x_half (a : BitVec 32) : (a.toNat : Int) / (2 : Int) = ((a >>> 1).toNat : Int) := by
  rw [BitVec.toNat_ushiftRight, Nat.shiftRight_eq_div_pow]; omega
theorem x_low (a : BitVec 32) : bits .and .u32 (a.toNat : Int) 1 = ((a &&& 1#32).toNat : Int) := x_and a 1#32
theorem x_neg (a : BitVec 32) : IntKind.u32.wrap (- (a.toNat : Int)) = ((- a).toNat : Int) := by
  have := a.isLt
  rw [IntKind.wrap_u32, BitVec.toNat_neg]; omega
theorem x_bit (a : BitVec 32) : bits .xor .u32 ((a.toNat : Int) / 2) (bits .and .u32 3988292384 (IntKind.u32.wrap (- bits .and .u32 (a.toNat : Int) 1))) = ((crcBit a).toNat : Int) := by
  rw [x_low, x_neg, x_half]
  have h := x_and poly (- (a &&& 1#32))
  rw [show ((poly).toNat : Int) = 3988292384 from rfl] at h
  rw [h, x_xor]; rfl
theorem x_bit' (a : BitVec 32) : bits .xor .u32 ((a.toNat : Int) / (2 : Int)) (bits .and .u32 3988292384 ((- bits .and .u32 (a.toNat : Int) 1) % 4294967296)) = ((crcBit a).toNat : Int) := by
  rw [← x_bit a, IntKind.wrap_u32]
/-! the document's way: the byte's bits stand apart -/
theorem i64_xor (a b : BitVec 32) : bits .xor .i64 (a.toNat : Int) (b.toNat : Int) = ((a ^^^ b).toNat : Int) := by
  show IntKind.i64.wrap ((BitVec.ofInt 64 _ ^^^ BitVec.ofInt 64 _ : BitVec 64).toNat : Int) = _
  have ha := a.isLt
  have hb := b.isLt
  have hx := (a ^^^ b).isLt
  rw [BitVec.ofInt_natCast, BitVec.ofInt_natCast, BitVec.toNat_xor, BitVec.toNat_ofNat, BitVec.toNat_ofNat, Nat.mod_eq_of_lt (by omega), Nat.mod_eq_of_lt (by omega), ← BitVec.toNat_xor, IntKind.wrap_i64]
  omega
theorem i64_poly (a : BitVec 32) : bits .xor .i64 ((a.toNat : Int) / (2 : Int)) 3988292384 = (((a >>> 1) ^^^ poly).toNat : Int) := by
  have h := i64_xor (a >>> 1) poly
  rw [show ((poly).toNat : Int) = 3988292384 from rfl, ← x_half] at h
  exact h
theorem byte_nat (x : Int) (h0 : 0 ≤ x) : BitVec.ofNat 32 x.toNat = BitVec.ofInt 32 x := by
  obtain ⟨n, rfl⟩ := Int.eq_ofNat_of_zero_le h0
  rw [BitVec.ofInt_natCast]; rfl
theorem half_of (u : Nat) (hu : u < 256) : BitVec.ofNat 32 (u / 2) = BitVec.ofNat 32 u >>> 1 := by
  apply BitVec.eq_of_toNat_eq
  rw [BitVec.toNat_ushiftRight, BitVec.toNat_ofNat, BitVec.toNat_ofNat, Nat.mod_eq_of_lt (by omega), Nat.mod_eq_of_lt (by omega), Nat.shiftRight_eq_div_pow]
theorem xor_two (v u : Nat) : (v ^^^ u) % 2 = (v + u) % 2 := by
  have h := Nat.xor_mod_two_eq_one (a := v) (b := u)
  by_cases h1 : v % 2 = 1 <;> by_cases h2 : u % 2 = 1
  · have n : ¬ ((v ^^^ u) % 2 = 1) := fun e => (h.1 e) (iff_of_true h1 h2)
    omega
  · have := h.2 (fun i => h2 (i.1 h1))
    omega
  · have := h.2 (fun i => h1 (i.2 h2))
    omega
  · have n : ¬ ((v ^^^ u) % 2 = 1) := fun e => (h.1 e) (iff_of_false h1 h2)
    omega
theorem odd_of (v : BitVec 32) (u : Nat) (hu : u < 256) : (v ^^^ BitVec.ofNat 32 u) &&& 1#32 = BitVec.ofNat 32 ((v.toNat + u) % 2) := by
  apply BitVec.eq_of_toNat_eq
  rw [BitVec.toNat_and, show (1#32).toNat = 2 ^ 1 - 1 from rfl, Nat.and_two_pow_sub_one_eq_mod, BitVec.toNat_xor, BitVec.toNat_ofNat, BitVec.toNat_ofNat, Nat.mod_eq_of_lt (by omega : u < 2 ^ 32), Nat.mod_eq_of_lt (by omega : (v.toNat + u) % 2 < 2 ^ 32)]
  exact xor_two v.toNat u
theorem bit_one (v : BitVec 32) (u : Nat) (hu : u < 256) (hb : (v.toNat + u) % 2 = 1) : ((v >>> 1) ^^^ poly) ^^^ BitVec.ofNat 32 (u / 2) = crcBit (v ^^^ BitVec.ofNat 32 u) := by
  unfold crcBit
  rw [odd_of v u hu, hb, half_of u hu, BitVec.ushiftRight_xor_distrib, show poly &&& -(BitVec.ofNat 32 1) = poly by decide, BitVec.xor_assoc, BitVec.xor_assoc, BitVec.xor_comm poly]
theorem bit_zero (v : BitVec 32) (u : Nat) (hu : u < 256) (hb : (v.toNat + u) % 2 = 0) : (v >>> 1) ^^^ BitVec.ofNat 32 (u / 2) = crcBit (v ^^^ BitVec.ofNat 32 u) := by
  unfold crcBit
  rw [odd_of v u hu, hb, half_of u hu, BitVec.ushiftRight_xor_distrib, show poly &&& -(BitVec.ofNat 32 0) = 0#32 by decide, BitVec.xor_zero]
theorem or_high (x y : Int) (hx0 : 0 ≤ x) (hx1 : x ≤ 65535) (hy0 : 0 ≤ y) (hy1 : y ≤ 65535) : bits .or .u32 (y * 65536) x = y * 65536 + x := by
  have h1 := to_bits x hx0 (by omega)
  have h2 := to_bits (y * 65536) (by omega) (by omega)
  have h3 := x_or (BitVec.ofInt 32 (y * 65536)) (BitVec.ofInt 32 x)
  rw [← h1, ← h2] at h3
  rw [h3, BitVec.toNat_or, BitVec.toNat_ofInt, BitVec.toNat_ofInt]
  obtain ⟨a, rfl⟩ := Int.eq_ofNat_of_zero_le hx0
  obtain ⟨b, rfl⟩ := Int.eq_ofNat_of_zero_le hy0
  have e1 : (((b : Int) * 65536) % ((2 ^ 32 : Nat) : Int)).toNat = b <<< 16 := by rw [Nat.shiftLeft_eq]; omega
  have e2 : ((a : Int) % ((2 ^ 32 : Nat) : Int)).toNat = a := by omega
  rw [e1, e2, ← Nat.shiftLeft_add_eq_or_of_lt (by omega : a < 2 ^ 16), Nat.shiftLeft_eq]
  omega
theorem or_one (k : Nat) (hk : k < 65521) (y : Int) (hy : y = (k : Int)) : bits .or .u32 (y * 65536) 1 = ad 1 (List.replicate k 0) := by
  subst hy
  rw [or_high 1 k (by omega) (by omega) (by omega) (by omega), ad_start]
  simp only [ad_zeros k hk, adOut]
theorem and_low (s : Int) (h0 : 0 ≤ s) (h1 : s ≤ 4294967295) : bits .and .u32 s 65535 = s % 65536 := by
  have e := to_bits s h0 h1
  have h := x_and (BitVec.ofInt 32 s) 65535#32
  rw [← e, show ((65535#32).toNat : Int) = 65535 from rfl] at h
  rw [h, BitVec.toNat_and, BitVec.toNat_ofInt]
  have e2 : (s % ((2 ^ 32 : Nat) : Int)).toNat = s.toNat := by omega
  rw [e2, show (65535#32).toNat = 2 ^ 16 - 1 from rfl, Nat.and_two_pow_sub_one_eq_mod]
  omega
/-! ### Three rows taken together bit by bit -/
def xor3 (n : Nat) (xs ys zs : List Int) : List Int := (List.range n).map fun j => bits .xor .u8 (bits .xor .u8 (xs[j]?.getD 0) (ys[j]?.getD 0)) (zs[j]?.getD 0)
theorem and_one_of_xor (a b : BitVec 32) : (a ^^^ b) &&& 1#32 = (a &&& 1#32) ^^^ (b &&& 1#32) := by
  ext i hi
  simp only [BitVec.getElem_and, BitVec.getElem_xor]
  cases a[i] <;> cases b[i] <;> cases (1#32)[i] <;> rfl
theorem and_one_cases (a : BitVec 32) : a &&& 1#32 = 0#32 ∨ a &&& 1#32 = 1#32 := by
  have h : (a &&& 1#32).toNat = a.toNat % 2 := by
    rw [BitVec.toNat_and, show (1#32).toNat = 2 ^ 1 - 1 from rfl, Nat.and_two_pow_sub_one_eq_mod]
  rcases Nat.mod_two_eq_zero_or_one a.toNat with h0 | h1
  · exact .inl (BitVec.eq_of_toNat_eq (by rw [h, h0]; rfl))
  · exact .inr (BitVec.eq_of_toNat_eq (by rw [h, h1]; rfl))
theorem xor_four (a b c d : BitVec 32) : (a ^^^ b) ^^^ (c ^^^ d) = (a ^^^ c) ^^^ (b ^^^ d) := by
  ext i hi
  simp only [BitVec.getElem_xor]
  cases a[i] <;> cases b[i] <;> cases c[i] <;> cases d[i] <;> rfl
theorem crcBit_xor (a b : BitVec 32) : crcBit (a ^^^ b) = crcBit a ^^^ crcBit b := by
  unfold crcBit
  rw [and_one_of_xor, BitVec.ushiftRight_xor_distrib]
  have z : poly &&& -(0#32) = 0#32 := by decide
  have o : poly &&& -(1#32) = poly := by decide
  rw [xor_four]
  congr 1
  rcases and_one_cases a with h | h <;> rcases and_one_cases b with k | k <;> rw [h, k] <;> decide
theorem crcBits_xor (a b : BitVec 32) (k : Nat) : crcBits (a ^^^ b) k = crcBits a k ^^^ crcBits b k := by
  induction k with
  | zero => rfl
  | succ k ih => unfold crcBits; rw [ih, crcBit_xor]
theorem u8_xor (x y : Int) (hx0 : 0 ≤ x) (hx1 : x ≤ 255) (hy0 : 0 ≤ y) (hy1 : y ≤ 255) : bits .xor .u8 x y = ((x.toNat ^^^ y.toNat : Nat) : Int) ∧ (x.toNat ^^^ y.toNat) < 256 := by
  have hlt : (x.toNat ^^^ y.toNat) < 2 ^ 8 := Nat.xor_lt_two_pow (by omega) (by omega)
  refine ⟨?_, hlt⟩
  show IntKind.u8.wrap ((BitVec.ofInt 8 _ ^^^ BitVec.ofInt 8 _ : BitVec 8).toNat : Int) = _
  rw [BitVec.toNat_xor, BitVec.toNat_ofInt, BitVec.toNat_ofInt, show (x % ((2 ^ 8 : Nat) : Int)).toNat = x.toNat by omega, show (y % ((2 ^ 8 : Nat) : Int)).toNat = y.toNat by omega, IntKind.wrap_u8]
  omega
theorem of_u8_xor (x y : Int) (hx0 : 0 ≤ x) (hx1 : x ≤ 255) (hy0 : 0 ≤ y) (hy1 : y ≤ 255) : BitVec.ofInt 32 (bits .xor .u8 x y) = BitVec.ofInt 32 x ^^^ BitVec.ofInt 32 y := by
  obtain ⟨h, hl⟩ := u8_xor x y hx0 hx1 hy0 hy1
  apply BitVec.eq_of_toNat_eq
  rw [h, BitVec.toNat_xor, BitVec.toNat_ofInt, BitVec.toNat_ofInt, BitVec.toNat_ofInt, show (x % ((2 ^ 32 : Nat) : Int)).toNat = x.toNat by omega, show (y % ((2 ^ 32 : Nat) : Int)).toNat = y.toNat by omega]
  omega
theorem xor3_length (n : Nat) (xs ys zs : List Int) : (xor3 n xs ys zs).length = n := by simp [xor3]
theorem xor3_get (n : Nat) (xs ys zs : List Int) (k : Nat) (h : k < n) : (xor3 n xs ys zs)[k]?.getD 0 = bits .xor .u8 (bits .xor .u8 (xs[k]?.getD 0) (ys[k]?.getD 0)) (zs[k]?.getD 0) := by
  simp [xor3, h]
theorem xor3_succ (n : Nat) (xs ys zs : List Int) : xor3 (n + 1) xs ys zs = xor3 n xs ys zs ++ [bits .xor .u8 (bits .xor .u8 (xs[n]?.getD 0) (ys[n]?.getD 0)) (zs[n]?.getD 0)] := by
  simp [xor3, List.range_succ]
theorem crcRun_xor3 (xs ys zs : List Int) (hx : ∀ j : Nat, 0 ≤ xs[j]?.getD 0 ∧ xs[j]?.getD 0 ≤ 255) (hy : ∀ j : Nat, 0 ≤ ys[j]?.getD 0 ∧ ys[j]?.getD 0 ≤ 255) (hz : ∀ j : Nat, 0 ≤ zs[j]?.getD 0 ∧ zs[j]?.getD 0 ≤ 255) (a b c : BitVec 32) :
    ∀ n : Nat, n ≤ xs.length → n ≤ ys.length → n ≤ zs.length → crcRun (a ^^^ b ^^^ c) (xor3 n xs ys zs) = crcRun a (xs.take n) ^^^ crcRun b (ys.take n) ^^^ crcRun c (zs.take n) := by
  intro n
  induction n with
  | zero => intro _ _ _; rfl
  | succ n ih =>
    intro h1 h2 h3
    rw [xor3_succ, take_succ_getD xs n (by omega), take_succ_getD ys n (by omega), take_succ_getD zs n (by omega), crcRun_snoc, crcRun_snoc, crcRun_snoc, crcRun_snoc, ih (by omega) (by omega) (by omega)]
    obtain ⟨e, l⟩ := u8_xor _ _ (hx n).1 (hx n).2 (hy n).1 (hy n).2
    unfold crcStep
    rw [of_u8_xor _ _ (by omega) (by omega) (hz n).1 (hz n).2, of_u8_xor _ _ (hx n).1 (hx n).2 (hy n).1 (hy n).2]
    simp only [crcBits_xor]
    ac_rfl
theorem crc_xor3 (n : Nat) (xs ys zs : List Int) (hx : ∀ j : Nat, 0 ≤ xs[j]?.getD 0 ∧ xs[j]?.getD 0 ≤ 255) (hy : ∀ j : Nat, 0 ≤ ys[j]?.getD 0 ∧ ys[j]?.getD 0 ≤ 255) (hz : ∀ j : Nat, 0 ≤ zs[j]?.getD 0 ∧ zs[j]?.getD 0 ≤ 255)
    (h1 : n ≤ xs.length) (h2 : n ≤ ys.length) (h3 : n ≤ zs.length) : crc 0 (xor3 n xs ys zs) = crc 0 (xs.take n) ^^^ crc 0 (ys.take n) ^^^ crc 0 (zs.take n) := by
  have h := crcRun_xor3 xs ys zs hx hy hz (~~~ 0) (~~~ 0) (~~~ 0) n h1 h2 h3
  rw [show (~~~ (0 : BitVec 32)) ^^^ (~~~ 0) ^^^ (~~~ 0) = ~~~ 0 by decide] at h
  unfold crc
  rw [h]
  generalize crcRun (~~~ 0) (xs.take n) = a
  generalize crcRun (~~~ 0) (ys.take n) = b
  generalize crcRun (~~~ 0) (zs.take n) = c
  ext i hi
  simp only [BitVec.getElem_not, BitVec.getElem_xor]
  cases a[i] <;> cases b[i] <;> cases c[i] <;> rfl
theorem fact_xor3 (a b c d : BitVec 32) (h : d = a ^^^ b ^^^ c) : ((d.toNat : Int) == bits .xor .u32 (bits .xor .u32 (a.toNat : Int) (b.toNat : Int)) (c.toNat : Int)) = true := by
  rw [x_xor, x_xor, h]; exact beq_self_eq_true _
end Go.Proofs.YtglgchjkonjpiaaGreatDoor.Plain
/-! Adler's sum: the program's and the document's. -/
namespace Go.Proofs.YtglgchjkonjpiaaGreatDoor
open Go.RowKit Plain
set_option linter.unusedVariables false

theorem adlerMore_some (s : Int) (b off len cap : Nat) (zs : List Int) (w : World) (hs0 : 0 ≤ s) (hs1 : s ≤ 4294967295) (hl : len ≤ 9223372036854775807) (hz : zs.length = len)
    (hc : ∀ j, j < len → w.cell? ⟨b, off + j, none⟩ = some (.int .u8 (zs[j]?.getD 0))) (hr : ∀ j : Nat, 0 ≤ zs[j]?.getD 0 ∧ zs[j]?.getD 0 ≤ 255) :
    Calls Tryz.prog 80 #[.int .u32 s, .slice (some ⟨b, off, none⟩) len cap] w fun e w' => e = .returned (.int .u32 (ad s zs)) ∧ w = w' := by
  have HZ : Hid (zs.length = len) := hz
  clear hz
  go_enter Tryz.func80, Tryz.ntmps80
  go_wp2
  go_loop [5, 6, 15] (fun lo hi i => ∃ (k : Nat) (p : Int × Int), k ≤ len ∧ i = .int .i64 k ∧ lo = .int .u32 p.1 ∧ hi = .int .u32 p.2 ∧ p = adRun (s % 65536, s / 65536) (zs.take k)) (fun _ _ i => len - (intOf i).toNat)
  case atStart => exact ⟨0, _, Nat.zero_le _, rfl, by rw [and_low s hs0 hs1]; rfl, rfl, rfl⟩
  case round =>
    obtain ⟨k, p, hk, rfl, rfl, rfl, hp⟩ := hrel
    have hL : Low p := by rw [hp]; exact low_run _ (low_start s hs0 hs1)
    obtain ⟨x, y⟩ := p
    obtain ⟨hx0, hx1, hy0, hy1⟩ := hL
    simp only at hx0 hx1 hy0 hy1
    have HP : Hid ((x, y) = adRun (s % 65536, s / 65536) (zs.take k)) := hp
    clear hp
    have hrk := hr k
    by_cases hlt : k < len
    · have hcell := hc k hlt
      clear hr hc
      go_wp2
      go_round
      case rel => exact ⟨k + 1, adStep (x, y) (zs[k]?.getD 0), by omega, by go_num, rfl, rfl, by rw [take_succ_getD zs k (by rw [HZ.out]; exact hlt), adRun_snoc, ← HP.out]⟩
      case measure => simp [intOf]; omega
    · go_wp2
      go_ret
      refine ⟨?_, rfl⟩
      rw [or_high x y hx0 hx1 hy0 hy1]
      unfold ad
      rw [show adRun (s % 65536, s / 65536) zs = (x, y) by rw [HP.out, List.take_of_length_le (by rw [HZ.out]; omega)]]
      rfl
theorem adlerMore_none (s : Int) (a : Option Addr) (cap : Nat) (w : World) (hs0 : 0 ≤ s) (hs1 : s ≤ 4294967295) :
    Calls Tryz.prog 80 #[.int .u32 s, .slice a 0 cap] w fun e w' => e = .returned (.int .u32 (ad s [])) ∧ w = w' := by
  go_enter Tryz.func80, Tryz.ntmps80
  go_wp2
  refine wp_loop_rounds 1 ?_
  rw [rounds_succ]
  go_wp2
  go_ret
  refine ⟨?_, rfl⟩
  rw [and_low s hs0 hs1, or_high (s % 65536) (s / 65536) (by omega) (by omega) (by omega) (by omega)]
  rfl
theorem adlerMore_any (s : Int) (a : Option Addr) (len cap : Nat) (zs : List Int) (w : World) (hs0 : 0 ≤ s) (hs1 : s ≤ 4294967295) (H : Bytes w a len zs) :
    Calls Tryz.prog 80 #[.int .u32 s, .slice a len cap] w fun e w' => e = .returned (.int .u32 (ad s zs)) ∧ w = w' := by
  obtain ⟨hz, hl, hr, rfl | ⟨b, off, rfl, hc⟩⟩ := H
  · obtain rfl : zs = [] := List.eq_nil_of_length_eq_zero hz
    exact adlerMore_none s a cap w hs0 hs1
  · exact adlerMore_some s b off len cap zs w hs0 hs1 hl hz hc hr
theorem adler_any (a : Option Addr) (len cap : Nat) (zs : List Int) (w : World) (H : Bytes w a len zs) :
    Calls Tryz.prog 50 #[.slice a len cap] w fun e w' => e = .returned (.int .u32 (ad 1 zs)) ∧ w = w' := by
  have HH : Hid (Bytes w a len zs) := H
  clear H
  go_enter Tryz.func50, Tryz.ntmps50
  go_wp2_with fail
  refine (adlerMore_any 1 a len cap zs w (by omega) (by omega) HH.out).mono ?_
  rintro e w' ⟨rfl, rfl⟩
  go_wp2_with fail
  go_ret
  exact ⟨rfl, rfl⟩

/-! ### The document's Adler -/
theorem refAdler_some (s : Int) (b off len cap : Nat) (zs : List Int) (w : World) (hs0 : 0 ≤ s) (hs1 : s ≤ 4294967295) (hl : len ≤ 9223372036854775807) (hz : zs.length = len)
    (hc : ∀ j, j < len → w.cell? ⟨b, off + j, none⟩ = some (.int .u8 (zs[j]?.getD 0))) (hr : ∀ j : Nat, 0 ≤ zs[j]?.getD 0 ∧ zs[j]?.getD 0 ≤ 255) :
    Calls Tryz.prog 81 #[.int .u32 s, .slice (some ⟨b, off, none⟩) len cap] w fun e w' => e = .returned (.int .u32 (ad s zs)) ∧ w = w' := by
  have HZ : Hid (zs.length = len) := hz
  clear hz
  go_enter Tryz.func81, Tryz.ntmps81
  go_wp2
  go_loop [5, 6, 7] (fun lo hi i => ∃ (k : Nat) (p : Int × Int), k ≤ len ∧ i = .int .i64 k ∧ lo = .int .i64 p.1 ∧ hi = .int .i64 p.2 ∧ p = adRun (s % 65536, s / 65536) (zs.take k)) (fun _ _ i => len - (intOf i).toNat)
  case atStart => exact ⟨0, _, Nat.zero_le _, rfl, rfl, rfl, rfl⟩
  case round =>
    obtain ⟨k, p, hk, rfl, rfl, rfl, hp⟩ := hrel
    have hL : Low p := by rw [hp]; exact low_run _ (low_start s hs0 hs1)
    obtain ⟨x, y⟩ := p
    obtain ⟨hx0, hx1, hy0, hy1⟩ := hL
    simp only at hx0 hx1 hy0 hy1
    have HP : Hid ((x, y) = adRun (s % 65536, s / 65536) (zs.take k)) := hp
    clear hp
    have hrk := hr k
    by_cases hlt : k < len
    · have hcell := hc k hlt
      clear hr hc
      go_wp2
      go_round
      case rel => exact ⟨k + 1, adStep (x, y) (zs[k]?.getD 0), by omega, by go_num, rfl, by show Value.int _ _ = Value.int _ _; unfold adStep; congr 2; simp only; omega, by rw [take_succ_getD zs k (by rw [HZ.out]; exact hlt), adRun_snoc, ← HP.out]⟩
      case measure => simp [intOf]; omega
    · go_wp2
      go_ret
      refine ⟨?_, rfl⟩
      unfold ad
      rw [show adRun (s % 65536, s / 65536) zs = (x, y) by rw [HP.out, List.take_of_length_le (by rw [HZ.out]; omega)]]
      exact ret_u32 (show 65536 * y + x = y * 65536 + x by omega)
theorem refAdler_none (s : Int) (a : Option Addr) (cap : Nat) (w : World) (hs0 : 0 ≤ s) (hs1 : s ≤ 4294967295) :
    Calls Tryz.prog 81 #[.int .u32 s, .slice a 0 cap] w fun e w' => e = .returned (.int .u32 (ad s [])) ∧ w = w' := by
  go_enter Tryz.func81, Tryz.ntmps81
  go_wp2
  refine wp_loop_rounds 1 ?_
  rw [rounds_succ]
  go_wp2
  go_ret
  exact ⟨ret_u32 (show 65536 * (s / 65536) + s % 65536 = s / 65536 * 65536 + s % 65536 by omega), rfl⟩
theorem refAdler_any (s : Int) (a : Option Addr) (len cap : Nat) (zs : List Int) (w : World) (hs0 : 0 ≤ s) (hs1 : s ≤ 4294967295) (H : Bytes w a len zs) :
    Calls Tryz.prog 81 #[.int .u32 s, .slice a len cap] w fun e w' => e = .returned (.int .u32 (ad s zs)) ∧ w = w' := by
  obtain ⟨hz, hl, hr, rfl | ⟨b, off, rfl, hc⟩⟩ := H
  · obtain rfl : zs = [] := List.eq_nil_of_length_eq_zero hz
    exact refAdler_none s a cap w hs0 hs1
  · exact refAdler_some s b off len cap zs w hs0 hs1 hl hz hc hr

end Go.Proofs.YtglgchjkonjpiaaGreatDoor
