/- Packed bytes, plainly: bits as one number, codes, signs, blocks. -/
import Derived.Test.YtkminkeaeclanaaBytes
namespace Go.Proofs.Ytkminkeaeclanaa
set_option linter.unusedVariables false
namespace Plain
/-- Bytes as one number, the first one the lowest. -/
def streamN : List Int → Nat
  | [] => 0
  | b :: t => b.toNat + 256 * streamN t
/-- n bits from the p-th one on, of L; 3: they end. -/
def num (N L p n : Nat) : Except Nat (Nat × Nat) := if p + n ≤ L then .ok (N / 2 ^ p % 2 ^ n, p + n) else .error 3
def rev : Nat → Nat → Nat
  | 0, _ => 0
  | n + 1, x => x % 2 * 2 ^ n + rev n (x / 2)
def codeN (N L p n : Nat) : Except Nat (Nat × Nat) := match num N L p n with
  | .error e => .error e
  | .ok (x, q) => .ok (rev n x, q)
def fixedSignN (N L p : Nat) : Except Nat (Nat × Nat) := match codeN N L p 7 with
  | .error e => .error e
  | .ok (x, q) => if x ≤ 23 then .ok (256 + x, q) else match num N L q 1 with
    | .error e => .error e
    | .ok (b, r) => if 2 * x + b ≤ 191 then .ok (2 * x + b - 48, r) else if 2 * x + b ≤ 199 then .ok (280 + (2 * x + b) - 192, r) else match num N L r 1 with
      | .error e => .error e
      | .ok (c, s) => .ok (144 + (2 * (2 * x + b) + c) - 400, s)
def fixedDistN (N L p : Nat) : Except Nat (Nat × Nat) := codeN N L p 5
/-- A code: how many signs have each length; the signs by length; the longest one. -/
structure CodeS where
  cnt : List Nat
  sg : List Nat
  longest : Nat
def signGo (N L : Nat) (c : CodeS) : Nat → Nat → Nat → Nat → Nat → Nat → Except Nat (Nat × Nat)
  | 0, _, _, _, _, _ => .error 4
  | f + 1, l, p, x, first, ahead => match num N L p 1 with
    | .error e => .error e
    | .ok (b, q) => if x + b < first + c.cnt.getD l 0 then .ok (c.sg.getD (ahead + (x + b) - first) 0, q)
      else signGo N L c f (l + 1) q (2 * (x + b)) (2 * (first + c.cnt.getD l 0)) (ahead + c.cnt.getD l 0)
def signN (N L : Nat) (c : CodeS) (p : Nat) : Except Nat (Nat × Nat) := signGo N L c c.longest 1 p 0 0 0
def lengthN (N L p s : Nat) : Except Nat (Nat × Nat) :=
  if s ≤ 264 then .ok (s - 254, p) else if s = 285 then .ok (258, p) else match num N L p ((s - 261) / 4) with
    | .error e => .error e
    | .ok (x, q) => .ok (3 + (4 + (s - 261) % 4) * 2 ^ ((s - 261) / 4) + x, q)
def distN (N L p s : Nat) : Except Nat (Nat × Nat) :=
  if 30 ≤ s then .error 4 else if s ≤ 3 then .ok (s + 1, p) else match num N L p ((s - 2) / 2) with
    | .error e => .error e
    | .ok (x, q) => .ok (1 + (2 + s % 2) * 2 ^ ((s - 2) / 2) + x, q)
def giveN (most : Nat) (made : List Int) (x : Int) : Except Nat (List Int) := if most ≤ made.length then .error 2 else .ok (made ++ [x])
def againGo (most d : Nat) : Nat → List Int → Except Nat (List Int)
  | 0, made => .ok made
  | k + 1, made => match giveN most made (made[made.length - d]?.getD 0) with
    | .error e => .error e
    | .ok m => againGo most d k m
def againN (most : Nat) (made : List Int) (len d : Nat) : Except Nat (List Int) := if made.length < d then .error 4 else againGo most d len made
/-- The signs of a block; 9: too many of them (never). -/
def signsGo (N L most : Nat) (nx fr : Nat → Except Nat (Nat × Nat)) : Nat → Nat → List Int → Except Nat (Nat × List Int)
  | 0, _, _ => .error 9
  | f + 1, p, made => match nx p with
    | .error e => .error e
    | .ok (s, q) =>
      if s < 256 then match giveN most made (s : Int) with
        | .error e => .error e
        | .ok m => signsGo N L most nx fr f q m
      else if s = 256 then .ok (q, made)
      else if 286 ≤ s then .error 4
      else match lengthN N L q s with
        | .error e => .error e
        | .ok (len, r) => match fr r with
          | .error e => .error e
          | .ok (t, u) => match distN N L u t with
            | .error e => .error e
            | .ok (d, v) => match againN most made len d with
              | .error e => .error e
              | .ok m => signsGo N L most nx fr f v m
def signsN (N L most : Nat) (nx fr : Nat → Except Nat (Nat × Nat)) (p : Nat) (made : List Int) : Except Nat (Nat × List Int) := signsGo N L most nx fr (L + 1 - p) p made
def storedN (bs : List Int) (N L most p : Nat) (made : List Int) : Except Nat (Nat × List Int) :=
  match num N L (8 * ((p + 7) / 8)) 16 with
  | .error e => .error e
  | .ok (n, q) => match num N L q 16 with
    | .error e => .error e
    | .ok (m, r) =>
      if m + n ≠ 65535 then .error 4
      else if most - made.length < min n (bs.length - r / 8) then .error 2
      else if bs.length - r / 8 < n then .error 3
      else .ok (r + 8 * n, made ++ (bs.drop (r / 8)).take n)
/-- A code's numbers, of its signs' lengths. -/
def cntOf (ls : List Nat) : List Nat := (List.range 16).map fun n => if n = 0 then 0 else ls.count n
def idxOf (ls : List Nat) (n : Nat) : List Nat := (List.range ls.length).filter fun i => ls.getD i 0 == n
def sgOf (ls : List Nat) : List Nat := (List.range 15).flatMap fun n => idxOf ls (n + 1)
def codeOfN (ls : List Nat) : CodeS := ⟨cntOf ls, sgOf ls, ls.foldl max 0⟩
def roomGo (cnt : List Nat) : Nat → Nat → Int → Int
  | 0, _, r => r
  | f + 1, n, r => if 2 * r - (cnt.getD n 0 : Int) < 0 then -1 else roomGo cnt f (n + 1) (2 * r - (cnt.getD n 0 : Int))
def goodN (c : CodeS) : Bool := let r := roomGo c.cnt 15 1 1; decide (0 ≤ r) && (r == 0 || (c.sg.length == 1 && c.longest == 1))
def howManyN (N L p n least most : Nat) : Except Nat (Nat × Nat) := match num N L p n with
  | .error e => .error e
  | .ok (x, q) => if most < x + least then .error 4 else .ok (x + least, q)
def orderN : List Nat := [16, 17, 18, 0, 8, 7, 9, 6, 10, 5, 11, 4, 12, 3, 13, 2, 14, 1, 15]
def toldGo (N L : Nat) : List Nat → Nat → List Nat → Except Nat (Nat × List Nat)
  | [], p, ls => .ok (p, ls)
  | s :: t, p, ls => match num N L p 3 with
    | .error e => .error e
    | .ok (x, q) => toldGo N L t q (ls.set s x)
def codeOfLengthsN (N L p : Nat) : Except Nat (Nat × CodeS) := match num N L p 4 with
  | .error e => .error e
  | .ok (x, q) => match toldGo N L (orderN.take (x + 4)) q (List.replicate 19 0) with
    | .error e => .error e
    | .ok (r, ls) => if goodN (codeOfN ls) then .ok (r, codeOfN ls) else .error 4
/-- One sign of the lengths: the length, how many times, the place behind. -/
def oneLen (N L : Nat) (c : CodeS) (p : Nat) (ls : List Nat) : Except Nat (Nat × Nat × Nat) := match signN N L c p with
  | .error e => .error e
  | .ok (s, q) =>
    if s = 16 then (if ls = [] then .error 4 else match num N L q 2 with
      | .error e => .error e
      | .ok (x, r) => .ok (ls.getD (ls.length - 1) 0, 3 + x, r))
    else if s = 17 then (match num N L q 3 with
      | .error e => .error e
      | .ok (x, r) => .ok (0, 3 + x, r))
    else if s = 18 then (match num N L q 7 with
      | .error e => .error e
      | .ok (x, r) => .ok (0, 11 + x, r))
    else .ok (s, 1, q)
def lensGo (N L : Nat) (c : CodeS) (n : Nat) : Nat → Nat → List Nat → Except Nat (Nat × List Nat)
  | 0, _, _ => .error 9
  | f + 1, p, ls => if n ≤ ls.length then .ok (p, ls) else match oneLen N L c p ls with
    | .error e => .error e
    | .ok (len, times, q) => if n - ls.length < times then .error 4 else lensGo N L c n f q (ls ++ List.replicate times len)
def lensN (N L : Nat) (c : CodeS) (n p : Nat) : Except Nat (Nat × List Nat) := lensGo N L c n (L + 1 - p) p []
def ownCodesN (N L p : Nat) : Except Nat (Nat × CodeS × CodeS) := match howManyN N L p 5 257 286 with
  | .error e => .error e
  | .ok (n, q) => match howManyN N L q 5 1 30 with
    | .error e => .error e
    | .ok (m, r) => match codeOfLengthsN N L r with
      | .error e => .error e
      | .ok (s, c) => match lensN N L c (n + m) s with
        | .error e => .error e
        | .ok (t, ls) =>
          if ls.getD 256 0 = 0 ∨ goodN (codeOfN (ls.take n)) = false ∨ (goodN (codeOfN (ls.drop n)) = false ∧ (codeOfN (ls.drop n)).sg ≠ []) then .error 4
          else .ok (t, codeOfN (ls.take n), codeOfN (ls.drop n))
def blockN (bs : List Int) (N L most kind p : Nat) (made : List Int) : Except Nat (Nat × List Int) :=
  if kind = 0 then storedN bs N L most p made
  else if kind = 1 then signsN N L most (fixedSignN N L) (fixedDistN N L) p made
  else if kind = 2 then match ownCodesN N L p with
    | .error e => .error e
    | .ok (q, c, d) => signsN N L most (signN N L c) (signN N L d) q made
  else .error 4
def rawGo (bs : List Int) (N L most : Nat) : Nat → Nat → List Int → Except Nat (Nat × List Int)
  | 0, _, _ => .error 9
  | f + 1, p, made => match num N L p 1 with
    | .error e => .error e
    | .ok (last, q) => match num N L q 2 with
      | .error e => .error e
      | .ok (kind, r) => match blockN bs N L most kind r made with
        | .error e => .error e
        | .ok (s, m) => if last = 0 then rawGo bs N L most f s m else .ok (s, m)
/-- Raw: the error's number, the bytes, how many are taken. -/
def rawOf (bs : List Int) (most : Nat) : Except Nat (Nat × List Int) := rawGo bs (streamN bs) (8 * bs.length) most (8 * bs.length + 1) 0 []
/-! ### Bits -/
theorem stream_at : ∀ (bs : List Int), (∀ x ∈ bs, 0 ≤ x ∧ x ≤ 255) → ∀ i, streamN bs / 2 ^ (8 * i) % 256 = (bs[i]?.getD 0).toNat
  | [], h, i => by simp [streamN]
  | b :: t, h, 0 => by
    have := h b (by simp)
    simp only [streamN, Nat.mul_zero, Nat.pow_zero, Nat.div_one, List.getElem?_cons_zero, Option.getD_some]
    omega
  | b :: t, h, i + 1 => by
    have hb := h b (by simp)
    have ih := stream_at t (fun x hx => h x (by simp [hx])) i
    rw [streamN, show 8 * (i + 1) = 8 + 8 * i by omega, Nat.pow_add, ← Nat.div_div_eq_div_mul]
    have e : (b.toNat + 256 * streamN t) / 2 ^ 8 = streamN t := by
      simp only [Nat.reducePow]; omega
    rw [e, ih]; rfl
theorem bits_split (N p l k : Nat) : N / 2 ^ p % 2 ^ (l + k) = N / 2 ^ p % 2 ^ l + 2 ^ l * (N / 2 ^ (p + l) % 2 ^ k) := by
  rw [Nat.pow_add, Nat.mod_mul, Nat.pow_add, Nat.div_div_eq_div_mul]
theorem bits_div (N p n l : Nat) (h : n ≤ l) : N / 2 ^ p % 2 ^ l / 2 ^ n = N / 2 ^ (p + n) % 2 ^ (l - n) := by
  obtain ⟨k, rfl⟩ : ∃ k, l = n + k := ⟨l - n, by omega⟩
  have hp : 0 < 2 ^ n := Nat.two_pow_pos n
  rw [bits_split, show n + k - n = k by omega, Nat.add_mul_div_left _ _ hp, Nat.div_eq_of_lt (Nat.mod_lt _ hp), Nat.zero_add]
theorem bits_mod (N p n l : Nat) (h : n ≤ l) : N / 2 ^ p % 2 ^ l % 2 ^ n = N / 2 ^ p % 2 ^ n := Nat.mod_mod_of_dvd _ (Nat.pow_dvd_pow 2 h)
theorem bits_lt (N p n : Nat) : N / 2 ^ p % 2 ^ n < 2 ^ n := Nat.mod_lt _ (Nat.two_pow_pos n)
theorem num_ok {N L p n x q : Nat} (h : num N L p n = .ok (x, q)) : x < 2 ^ n ∧ q = p + n ∧ q ≤ L := by
  unfold num at h
  split at h
  · simp only [Except.ok.injEq, Prod.mk.injEq] at h
    obtain ⟨rfl, rfl⟩ := h
    exact ⟨bits_lt _ _ _, rfl, by assumption⟩
  · cases h
theorem num_err {N L p n e : Nat} (h : num N L p n = .error e) : e = 3 := by
  unfold num at h
  split at h
  · cases h
  · injection h with h; exact h.symm
theorem rev_lt : ∀ n x, rev n x < 2 ^ n
  | 0, x => by simp [rev]
  | n + 1, x => by
    have := rev_lt n (x / 2)
    have h2 : x % 2 = 0 ∨ x % 2 = 1 := by omega
    rw [rev, Nat.pow_succ]
    rcases h2 with h | h <;> rw [h] <;> omega
end Plain
end Go.Proofs.Ytkminkeaeclanaa
