/- Plain facts: a change within four bytes that stand together shows in the CRC; a change of one byte shows in Adler's sum. -/
import Derived.Test.YtlmjnpgcokjiaaaMath
import Derived.OpenShut
namespace Go.Proofs.Ytlmjnpgcokjiaaa.Plain
open Go.RowKit
set_option linter.unusedVariables false

def Byte (x : Int) : Prop := 0 ≤ x ∧ x ≤ 255
theorem crcStep_xor (a b : BitVec 32) (x d : Int) (hx : Byte x) (hd : Byte d) : crcStep (a ^^^ b) (bits .xor .u8 x d) = crcStep a x ^^^ crcStep b d := by
  unfold crcStep
  rw [of_u8_xor x d hx.1 hx.2 hd.1 hd.2, xor_four, crcBits_xor]
theorem crcRun_zip : ∀ (xs ds : List Int) (a b : BitVec 32), xs.length = ds.length → (∀ x ∈ xs, Byte x) → (∀ d ∈ ds, Byte d) → crcRun (a ^^^ b) (List.zipWith (bits .xor .u8) xs ds) = crcRun a xs ^^^ crcRun b ds := by
  intro xs
  induction xs with
  | nil => intro ds a b h _ _; cases ds with
    | nil => rfl
    | cons d ds => simp at h
  | cons x xs ih => intro ds a b h hx hd; cases ds with
    | nil => simp at h
    | cons d ds =>
      show crcRun (crcStep (a ^^^ b) (bits .xor .u8 x d)) _ = crcRun (crcStep a x) xs ^^^ crcRun (crcStep b d) ds
      rw [crcStep_xor a b x d (hx x (by simp)) (hd d (by simp))]
      exact ih ds _ _ (by simpa using h) (fun y hy => hx y (by simp [hy])) (fun y hy => hd y (by simp [hy]))
theorem crcBits_comm (c : BitVec 32) (n : Nat) : crcBits (crcBit c) n = crcBits c (n + 1) := by
  induction n with
  | zero => rfl
  | succ n ih =>
    show crcBit (crcBits (crcBit c) n) = crcBit (crcBits c (n + 1))
    rw [ih]
theorem crcBits_add (c : BitVec 32) (m n : Nat) : crcBits (crcBits c m) n = crcBits c (m + n) := by
  induction n with
  | zero => rfl
  | succ n ih =>
    show crcBit (crcBits (crcBits c m) n) = crcBit (crcBits c (m + n))
    rw [ih]
theorem crcBit_zero {x : BitVec 32} (h : crcBit x = 0#32) : x = 0#32 := by
  unfold crcBit at h
  rcases and_one_cases x with k | k
  · rw [k, show poly &&& -(0#32) = 0#32 by decide, BitVec.xor_zero] at h
    have h1 := congrArg BitVec.toNat h
    have h2 := congrArg BitVec.toNat k
    rw [BitVec.toNat_ushiftRight, Nat.shiftRight_eq_div_pow] at h1
    rw [BitVec.toNat_and, show (1#32).toNat = 2 ^ 1 - 1 from rfl, Nat.and_two_pow_sub_one_eq_mod] at h2
    apply BitVec.eq_of_toNat_eq
    have z : (0#32).toNat = 0 := rfl
    rw [z] at h1 h2 ⊢
    omega
  · exfalso
    rw [k, show poly &&& -(1#32) = poly by decide] at h
    have h1 : x >>> 1 = poly := by
      have := congrArg (fun y => y ^^^ poly) h
      simp only [BitVec.xor_assoc, BitVec.xor_self, BitVec.xor_zero, BitVec.zero_xor] at this
      exact this
    have h2 := congrArg BitVec.toNat h1
    rw [BitVec.toNat_ushiftRight, Nat.shiftRight_eq_div_pow, show poly.toNat = 3988292384 from rfl] at h2
    have := x.isLt
    omega
theorem crcBits_zero {x : BitVec 32} : ∀ n : Nat, crcBits x n = 0#32 → x = 0#32 := by
  intro n
  induction n with
  | zero => exact id
  | succ n ih => intro h; exact ih (crcBit_zero h)
theorem crcBits_nought (n : Nat) : crcBits 0#32 n = 0#32 := by
  induction n with
  | zero => rfl
  | succ n ih => show crcBit (crcBits 0#32 n) = _; rw [ih]; decide
theorem crcBit_shl (z : BitVec 32) (h : z.toNat < 2147483648) : crcBit (z <<< 1) = z := by
  unfold crcBit
  have e1 : (z <<< 1).toNat = 2 * z.toNat := by rw [BitVec.toNat_shiftLeft, Nat.shiftLeft_eq]; omega
  have e2 : (z <<< 1) &&& 1#32 = 0#32 := by
    apply BitVec.eq_of_toNat_eq
    rw [BitVec.toNat_and, show (1#32).toNat = 2 ^ 1 - 1 from rfl, Nat.and_two_pow_sub_one_eq_mod, e1, show (0#32).toNat = 0 from rfl]
    omega
  rw [e2, show poly &&& -(0#32) = 0#32 by decide, BitVec.xor_zero]
  apply BitVec.eq_of_toNat_eq
  rw [BitVec.toNat_ushiftRight, Nat.shiftRight_eq_div_pow, e1]
  omega
theorem crcBits_shl (y : BitVec 32) : ∀ n : Nat, n ≤ 8 → y.toNat < 16777216 → crcBits (y <<< n) n = y := by
  intro n
  induction n with
  | zero => intro _ _; show y <<< 0 = y; simp
  | succ n ih =>
    intro h8 hy
    rw [← crcBits_comm, show y <<< (n + 1) = (y <<< n) <<< 1 by rw [BitVec.shiftLeft_add], crcBit_shl, ih (by omega) hy]
    rw [BitVec.toNat_shiftLeft, Nat.shiftLeft_eq]
    have : y.toNat * 2 ^ n ≤ y.toNat * 2 ^ 7 := Nat.mul_le_mul_left _ (Nat.pow_le_pow_right (by omega) (by omega))
    have := Nat.mod_le (y.toNat * 2 ^ n) (2 ^ 32)
    omega
/-- Up to four bytes as one number, the first one lowest. -/
def pack : List Int → BitVec 32
  | [] => 0#32
  | t :: ts => BitVec.ofInt 32 t ^^^ (pack ts <<< 8)
theorem ofInt_lt (t : Int) (h : Byte t) : (BitVec.ofInt 32 t).toNat = t.toNat ∧ t.toNat < 256 := by
  have := h.1; have := h.2
  rw [BitVec.toNat_ofInt]; omega
theorem pack_lt : ∀ (ts : List Int) (n : Nat), ts.length ≤ n → n ≤ 4 → (∀ t ∈ ts, Byte t) → (pack ts).toNat < 2 ^ (8 * n) := by
  intro ts
  induction ts with
  | nil => intro n _ _ _; show (0#32).toNat < _; exact Nat.two_pow_pos _
  | cons t ts ih =>
    intro n hn h4 hb
    obtain ⟨m, rfl⟩ : ∃ m, n = m + 1 := ⟨n - 1, by simp at hn; omega⟩
    have h1 := ih m (by simpa using hn) (by omega) (fun y hy => hb y (by simp [hy]))
    obtain ⟨h2, h3⟩ := ofInt_lt t (hb t (by simp))
    show (BitVec.ofInt 32 t ^^^ (pack ts <<< 8)).toNat < _
    rw [BitVec.toNat_xor]
    apply Nat.xor_lt_two_pow
    · rw [h2]; exact Nat.lt_of_lt_of_le h3 (by rw [show 256 = 2 ^ 8 from rfl]; exact Nat.pow_le_pow_right (by omega) (by omega))
    · rw [BitVec.toNat_shiftLeft, Nat.shiftLeft_eq]
      refine Nat.lt_of_le_of_lt (Nat.mod_le _ _) ?_
      rw [show 8 * (m + 1) = 8 * m + 8 by omega, Nat.pow_add]
      exact Nat.mul_lt_mul_of_pos_right h1 (Nat.two_pow_pos _)
theorem crcRun_pack : ∀ (ts : List Int) (c : BitVec 32), ts.length ≤ 4 → (∀ t ∈ ts, Byte t) → crcRun c ts = crcBits (c ^^^ pack ts) (8 * ts.length) := by
  intro ts
  induction ts with
  | nil => intro c _ _; show c = c ^^^ 0#32; simp
  | cons t ts ih =>
    intro c h4 hb
    have hl : ts.length ≤ 3 := by simpa using h4
    have hp := pack_lt ts 3 hl (by omega) (fun y hy => hb y (by simp [hy]))
    show crcRun (crcStep c t) ts = crcBits (c ^^^ (BitVec.ofInt 32 t ^^^ (pack ts <<< 8))) (8 * (ts.length + 1))
    rw [ih _ (by omega) (fun y hy => hb y (by simp [hy])), show 8 * (ts.length + 1) = 8 + 8 * ts.length by omega, ← crcBits_add]
    rw [← BitVec.xor_assoc, crcBits_xor (c ^^^ BitVec.ofInt 32 t), crcBits_shl _ 8 (by omega) (by simpa using hp)]
    rfl
theorem pack_zero : ∀ ts : List Int, ts.length ≤ 4 → (∀ t ∈ ts, Byte t) → pack ts = 0#32 → ∀ t ∈ ts, t = 0 := by
  intro ts
  induction ts with
  | nil => intro _ _ _ t ht; cases ht
  | cons t ts ih =>
    intro h4 hb h
    have hl : ts.length ≤ 3 := by simpa using h4
    have hp := pack_lt ts 3 hl (by omega) (fun y hy => hb y (by simp [hy]))
    obtain ⟨h2, h3⟩ := ofInt_lt t (hb t (by simp))
    have e : BitVec.ofInt 32 t = pack ts <<< 8 := by
      have := congrArg (fun y => y ^^^ (pack ts <<< 8)) h
      simp only [pack, BitVec.xor_assoc, BitVec.xor_self, BitVec.xor_zero, BitVec.zero_xor] at this
      exact this
    have e2 := congrArg BitVec.toNat e
    rw [h2, BitVec.toNat_shiftLeft, Nat.shiftLeft_eq] at e2
    have hp' : (pack ts).toNat < 16777216 := by simpa using hp
    have z : (pack ts).toNat = 0 := by omega
    have hp0 : pack ts = 0#32 := BitVec.eq_of_toNat_eq (by rw [z]; rfl)
    intro y hy
    rcases List.mem_cons.1 hy with rfl | hy
    · have := (hb y (by simp)).1; omega
    · exact ih (by omega) (fun y hy => hb y (by simp [hy])) hp0 y hy
theorem crcRun_noughts (c : BitVec 32) (n : Nat) : crcRun c (List.replicate n 0) = crcBits c (8 * n) := by
  induction n generalizing c with
  | zero => rfl
  | succ n ih =>
    show crcRun (crcStep c 0) (List.replicate n 0) = _
    rw [ih, show 8 * (n + 1) = 8 + 8 * n by omega, ← crcBits_add]
    unfold crcStep
    rw [show c ^^^ BitVec.ofInt 32 0 = c by simp]
/-- Where the changed bytes stand: 'k' bytes ahead, 'ts' themselves, 'r' bytes behind. -/
theorem crc_shows (k r : Nat) (ts xs : List Int) (h4 : ts.length ≤ 4) (ht : ∀ t ∈ ts, Byte t) (hx : ∀ x ∈ xs, Byte x) (hl : xs.length = k + ts.length + r) :
    crc 0 (List.zipWith (bits .xor .u8) xs (List.replicate k 0 ++ ts ++ List.replicate r 0)) = crc 0 xs ↔ ∀ t ∈ ts, t = 0 := by
  have hD : ∀ d ∈ List.replicate k (0 : Int) ++ ts ++ List.replicate r 0, Byte d := by
    intro d hd
    rcases List.mem_append.1 hd with hd | hd
    · rcases List.mem_append.1 hd with hd | hd
      · rw [(List.mem_replicate.1 hd).2]; exact ⟨by omega, by omega⟩
      · exact ht d hd
    · rw [(List.mem_replicate.1 hd).2]; exact ⟨by omega, by omega⟩
  have e := crcRun_zip xs (List.replicate k 0 ++ ts ++ List.replicate r 0) (~~~ 0) 0#32 (by simp; omega) hx hD
  rw [BitVec.xor_zero] at e
  have eD : crcRun 0#32 (List.replicate k 0 ++ ts ++ List.replicate r 0) = crcBits (crcBits (pack ts) (8 * ts.length)) (8 * r) := by
    unfold crcRun
    rw [List.foldl_append, List.foldl_append]
    have e1 := crcRun_noughts 0#32 k
    unfold crcRun at e1
    rw [e1, crcBits_nought]
    have e2 := crcRun_pack ts 0#32 h4 ht
    unfold crcRun at e2
    rw [e2, BitVec.zero_xor]
    exact crcRun_noughts _ r
  unfold crc
  rw [e, eD]
  constructor
  · intro h t htt
    have h1 := congrArg (fun y => ~~~ y) h
    simp only [BitVec.not_not] at h1
    have h2 := congrArg (fun y => crcRun (~~~ 0) xs ^^^ y) h1
    simp only [← BitVec.xor_assoc, BitVec.xor_self, BitVec.zero_xor] at h2
    exact pack_zero ts h4 ht (crcBits_zero _ (crcBits_zero _ h2)) t htt
  · intro h
    have hp : pack ts = 0#32 := by
      clear e eD hD hl hx h4 ht
      induction ts with
      | nil => rfl
      | cons t ts ih =>
        show BitVec.ofInt 32 t ^^^ (pack ts <<< 8) = 0#32
        rw [ih (fun y hy => h y (by simp [hy])), h t (by simp)]
        decide
    rw [hp, crcBits_nought, crcBits_nought, BitVec.xor_zero]

/-! ### Adler's sum -/
theorem ad_low (xs : List Int) : ∀ p : Int × Int, (adRun p xs).1 % 65521 = (p.1 + xs.sum) % 65521 := by
  induction xs with
  | nil => intro p; simp [adRun]
  | cons x xs ih =>
    intro p
    show (adRun (adStep p x) xs).1 % 65521 = _
    rw [ih]
    unfold adStep
    simp only [List.sum_cons]
    omega
theorem sum_set : ∀ (xs : List Int) (k : Nat) (v : Int), k < xs.length → (xs.set k v).sum = xs.sum - xs[k]?.getD 0 + v := by
  intro xs
  induction xs with
  | nil => intro k v h; simp at h
  | cons x xs ih =>
    intro k v h
    cases k with
    | zero => simp; omega
    | succ k =>
      simp only [List.set_cons_succ, List.sum_cons, List.getElem?_cons_succ]
      rw [ih k v (by simpa using h)]
      omega
theorem xor_same (x t : Int) (hx : Byte x) (ht : Byte t) : bits .xor .u8 x t = x ↔ t = 0 := by
  constructor
  · intro h
    have e := of_u8_xor x t hx.1 hx.2 ht.1 ht.2
    rw [h] at e
    have e2 := congrArg (fun y => BitVec.ofInt 32 x ^^^ y) e
    simp only [← BitVec.xor_assoc, BitVec.xor_self, BitVec.zero_xor] at e2
    have e3 := congrArg BitVec.toNat e2
    rw [(ofInt_lt t ht).1, show (0#32).toNat = 0 from rfl] at e3
    have := ht.1
    omega
  · rintro rfl
    rw [(u8_xor x 0 hx.1 hx.2 (by omega) (by omega)).1]
    have := hx.1
    simp; omega
theorem ad_shows (xs : List Int) (k : Nat) (t : Int) (hk : k < xs.length) (hx : Byte (xs[k]?.getD 0)) (ht : Byte t) : ad 1 (xs.set k (bits .xor .u8 (xs[k]?.getD 0) t)) = ad 1 xs ↔ t = 0 := by
  constructor
  · intro h
    obtain ⟨a, b, h1, a0, a1, b0, b1⟩ := ad_one xs
    obtain ⟨c, d, h2, c0, c1, d0, d1⟩ := ad_one (xs.set k (bits .xor .u8 (xs[k]?.getD 0) t))
    have l1 := ad_low xs (1, 0)
    have l2 := ad_low (xs.set k (bits .xor .u8 (xs[k]?.getD 0) t)) (1, 0)
    rw [ad_start] at h
    simp only [h1, h2, adOut] at h
    rw [h1] at l1
    rw [h2, sum_set xs k _ hk] at l2
    simp only at l1 l2
    have r := u8_xor (xs[k]?.getD 0) t hx.1 hx.2 ht.1 ht.2
    have r1 : 0 ≤ bits .xor .u8 (xs[k]?.getD 0) t ∧ bits .xor .u8 (xs[k]?.getD 0) t ≤ 255 := by rw [r.1]; omega
    have hx0 := hx.1
    have hx1 := hx.2
    have hac : c = a := by omega
    refine (xor_same _ t hx ht).1 ?_
    omega
  · rintro rfl
    rw [(xor_same _ 0 hx ht).2 rfl]
    congr 1
    apply List.ext_getElem?
    intro j
    by_cases hj : j = k
    · subst hj; rw [List.getElem?_set_self hk, List.getElem?_eq_getElem hk]; rfl
    · rw [List.getElem?_set_ne (by omega)]
/-! ### The changed row, byte by byte -/
def csOf (xs : List Int) (k : Nat) (ts : List Int) : Nat → List Int
  | 0 => xs
  | i + 1 => (csOf xs k ts i).set (k + i) (bits .xor .u8 ((csOf xs k ts i)[k + i]?.getD 0) (ts[i]?.getD 0))
theorem csOf_length (xs : List Int) (k : Nat) (ts : List Int) (i : Nat) : (csOf xs k ts i).length = xs.length := by
  induction i with
  | zero => rfl
  | succ i ih => unfold csOf; rw [List.length_set, ih]
theorem csOf_get (xs : List Int) (k : Nat) (ts : List Int) : ∀ (i j : Nat), (csOf xs k ts i)[j]? = if k ≤ j ∧ j < k + i ∧ j < xs.length then some (bits .xor .u8 (xs[j]?.getD 0) (ts[j - k]?.getD 0)) else xs[j]? := by
  intro i
  induction i with
  | zero => intro j; rw [if_neg (by omega)]; rfl
  | succ i ih =>
    intro j
    unfold csOf
    rw [List.getElem?_set, csOf_length, ih (k + i), if_neg (by omega : ¬ (k ≤ k + i ∧ k + i < k + i ∧ k + i < xs.length))]
    by_cases hj : k + i = j
    · subst hj
      rw [if_pos rfl]
      by_cases hl : k + i < xs.length
      · rw [if_pos hl, if_pos ⟨by omega, by omega, hl⟩, show k + i - k = i by omega]
      · rw [if_neg hl, if_neg (by omega), List.getElem?_eq_none (by omega)]
    · rw [if_neg hj, ih j]
      by_cases h : k ≤ j ∧ j < k + i ∧ j < xs.length
      · rw [if_pos h, if_pos ⟨h.1, by omega, h.2.2⟩]
      · rw [if_neg h, if_neg (by omega)]
theorem xor_nought (x : Int) (hx : Byte x) : bits .xor .u8 x 0 = x := (xor_same x 0 hx ⟨by omega, by omega⟩).2 rfl
theorem csOf_zip (xs : List Int) (k : Nat) (ts : List Int) (i : Nat) (hi : i ≤ ts.length) (hk : k + i ≤ xs.length) (hx : ∀ x ∈ xs, Byte x) :
    csOf xs k ts i = List.zipWith (bits .xor .u8) xs (List.replicate k 0 ++ ts.take i ++ List.replicate (xs.length - k - i) 0) := by
  apply List.ext_getElem?
  intro j
  rw [csOf_get, List.getElem?_zipWith]
  by_cases hj : j < xs.length
  · have hb := hx xs[j] (List.getElem_mem hj)
    rw [List.getElem?_eq_getElem hj]
    by_cases h1 : j < k
    · rw [if_neg (by omega), List.append_assoc, List.getElem?_append_left (by simpa using h1)]
      simp [h1, xor_nought _ hb]
    · rw [List.append_assoc, List.getElem?_append_right (by simp; omega), List.length_replicate]
      by_cases h2 : j < k + i
      · rw [if_pos ⟨by omega, h2, hj⟩, List.getElem?_append_left (by simp; omega), List.getElem?_take_of_lt (by omega), List.getElem?_eq_getElem (by omega : j - k < ts.length)]
        rfl
      · rw [if_neg (by omega), List.getElem?_append_right (by simp; omega)]
        have h3 : j - k - (ts.take i).length < xs.length - k - i := by rw [List.length_take]; omega
        rw [List.getElem?_replicate, if_pos h3]
        simp [xor_nought _ hb]
  · rw [if_neg (by omega), List.getElem?_eq_none (by omega : xs.length ≤ j)]
theorem csOf_range (xs : List Int) (k : Nat) (ts : List Int) (i : Nat) (hx : ∀ j : Nat, 0 ≤ xs[j]?.getD 0 ∧ xs[j]?.getD 0 ≤ 255) (j : Nat) : 0 ≤ (csOf xs k ts i)[j]?.getD 0 ∧ (csOf xs k ts i)[j]?.getD 0 ≤ 255 := by
  rw [csOf_get]
  split
  · exact bounds_u8 (wf_bits .xor .u8 _ _)
  · exact hx j
theorem set_range (xs : List Int) (k : Nat) (x y : Int) (hx : ∀ j : Nat, 0 ≤ xs[j]?.getD 0 ∧ xs[j]?.getD 0 ≤ 255) (j : Nat) : 0 ≤ (xs.set k (bits .xor .u8 x y))[j]?.getD 0 ∧ (xs.set k (bits .xor .u8 x y))[j]?.getD 0 ≤ 255 := by
  rw [List.getElem?_set]
  split
  · split
    · exact bounds_u8 (wf_bits .xor .u8 _ _)
    · simp
  · exact hx j
def allNought (ts : List Int) : Bool := ts.all fun t => t == 0
theorem allNought_snoc (ts : List Int) (i : Nat) (hi : i < ts.length) : allNought (ts.take (i + 1)) = (allNought (ts.take i) && (ts[i]?.getD 0 == 0)) := by
  rw [take_succ_getD ts i hi]
  simp [allNought]
theorem fact_crc (xs ts : List Int) (k i : Nat) (hi : i ≤ ts.length) (h4 : ts.length ≤ 4) (hk : k + i ≤ xs.length) (hx : ∀ x ∈ xs, Byte x) (ht : ∀ t ∈ ts, Byte t) :
    ((((crc 0 (csOf xs k ts i)).toNat : Int) == ((crc 0 xs).toNat : Int)) == allNought (ts.take i)) = true := by
  have h := crc_shows k (xs.length - k - i) (ts.take i) xs (by rw [List.length_take]; omega) (fun t h => ht t (List.mem_of_mem_take h)) hx (by rw [List.length_take]; omega)
  rw [← csOf_zip xs k ts i hi hk hx] at h
  have e : allNought (ts.take i) = true ↔ ∀ t ∈ ts.take i, t = 0 := by simp [allNought]
  rw [beq_iff_eq, Bool.eq_iff_iff, e, ← h, beq_iff_eq]
  constructor
  · intro hh; exact BitVec.eq_of_toNat_eq (by omega)
  · intro hh; rw [hh]
theorem fact_ad (xs : List Int) (k : Nat) (t : Int) (hk : k < xs.length) (hx : Byte (xs[k]?.getD 0)) (ht : Byte t) : ((ad 1 (xs.set k (bits .xor .u8 (xs[k]?.getD 0) t)) == ad 1 xs) == (t == 0)) = true := by
  have h := ad_shows xs k t hk hx ht
  rw [beq_iff_eq, Bool.eq_iff_iff, beq_iff_eq, beq_iff_eq]
  exact h
end Go.Proofs.Ytlmjnpgcokjiaaa.Plain
