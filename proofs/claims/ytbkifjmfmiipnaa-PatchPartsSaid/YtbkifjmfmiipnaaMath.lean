/- Patches, plainly: numbers of four bytes; hunks; what a base becomes. -/
import Derived.Test.YtbkifjmfmiipnaaBytes
namespace Go.Proofs.Ytbkifjmfmiipnaa
namespace Plain
def num (xs : List Int) : Nat := xs.foldl (fun n x => n * 256 + x.toNat) 0
theorem num_snoc (xs : List Int) (x : Int) : num (xs ++ [x]) = num xs * 256 + x.toNat := by simp [num]
def sub (xs : List Int) (o n : Nat) : List Int := (xs.drop o).take n
structure Hk where
  fr : Nat
  to : Nat
  ys : List Int
  deriving DecidableEq
/-- The hunks of a patch; none: it ends too early. -/
def hunksF : Nat → List Int → List (Option Hk)
  | 0, _ => []
  | f + 1, xs =>
    if xs.length = 0 then [] else
    if xs.length < 12 then [none] else
    if xs.length - 12 < num (sub xs 8 4) then [none] else
    some ⟨num (sub xs 0 4), num (sub xs 4 4), sub xs 12 (num (sub xs 8 4))⟩ :: hunksF f (xs.drop (12 + num (sub xs 8 4)))
def hunksOf (xs : List Int) : List (Option Hk) := hunksF xs.length xs
theorem hunksF_nil (f : Nat) : hunksF f [] = [] := by cases f <;> simp [hunksF]
theorem hunksF_same : ∀ (f g : Nat) (xs : List Int), xs.length ≤ f → xs.length ≤ g → hunksF f xs = hunksF g xs
  | 0, g, xs, h, _ => by
    obtain rfl : xs = [] := List.eq_nil_of_length_eq_zero (by omega)
    rw [hunksF_nil, hunksF_nil]
  | f + 1, 0, xs, _, h => by
    obtain rfl : xs = [] := List.eq_nil_of_length_eq_zero (by omega)
    rw [hunksF_nil, hunksF_nil]
  | f + 1, g + 1, xs, h1, h2 => by
    simp only [hunksF]
    split
    · rfl
    · split
      · rfl
      · split
        · rfl
        · rw [hunksF_same f g _ (by simp; omega) (by simp; omega)]
def be4 (n : Nat) : List Int := [((n / 16777216 % 256 : Nat) : Int), ((n / 65536 % 256 : Nat) : Int), ((n / 256 % 256 : Nat) : Int), ((n % 256 : Nat) : Int)]
theorem be4_length (n : Nat) : (be4 n).length = 4 := rfl
theorem num_be4 (n : Nat) : num (be4 n) = n % 4294967296 := by
  unfold num be4
  simp only [List.foldl_cons, List.foldl_nil, Int.toNat_natCast]
  omega
theorem be4_bytes (n : Nat) : ∀ x ∈ be4 n, 0 ≤ x ∧ x ≤ 255 := by
  intro x hx
  unfold be4 at hx
  simp only [List.mem_cons, List.not_mem_nil, or_false] at hx
  rcases hx with rfl | rfl | rfl | rfl <;> omega
def hkBytes (h : Hk) : List Int := be4 h.fr ++ be4 h.to ++ be4 h.ys.length ++ h.ys
def printOf (l : List Hk) : List Int := l.flatMap hkBytes
theorem hkBytes_length (h : Hk) : (hkBytes h).length = 12 + h.ys.length := by simp [hkBytes, be4_length]; omega
def low (h : Hk) : Hk := ⟨h.fr % 4294967296, h.to % 4294967296, h.ys⟩
theorem hunksOf_cons (h : Hk) (rest : List Int) (hl : h.ys.length < 4294967296) : hunksOf (hkBytes h ++ rest) = some (low h) :: hunksOf rest := by
  have e8 : sub (hkBytes h ++ rest) 8 4 = be4 h.ys.length := by simp [sub, hkBytes, be4]
  have e0 : sub (hkBytes h ++ rest) 0 4 = be4 h.fr := by simp [sub, hkBytes, be4]
  have e4 : sub (hkBytes h ++ rest) 4 4 = be4 h.to := by simp [sub, hkBytes, be4]
  have e12 : sub (hkBytes h ++ rest) 12 h.ys.length = h.ys := by simp [sub, hkBytes, be4]
  have ed : (hkBytes h ++ rest).drop (12 + h.ys.length) = rest := by
    rw [← hkBytes_length]; exact List.drop_left
  have hL : (hkBytes h ++ rest).length = 12 + h.ys.length + rest.length := by rw [List.length_append, hkBytes_length]
  unfold hunksOf
  rw [hL, show 12 + h.ys.length + rest.length = (11 + h.ys.length + rest.length) + 1 by omega]
  rw [hunksF, e8, e0, e4, num_be4, num_be4, num_be4, Nat.mod_eq_of_lt hl, hL, e12, ed]
  rw [if_neg (by omega), if_neg (by omega), if_neg (by omega)]
  rw [hunksF_same (11 + h.ys.length + rest.length) rest.length rest (by omega) (Nat.le_refl _)]
  rfl
theorem hunksOf_nil : hunksOf [] = [] := rfl
theorem hunksOf_print : ∀ (l : List Hk), (∀ h ∈ l, h.ys.length < 4294967296) → hunksOf (printOf l) = l.map fun h => some (low h)
  | [], _ => rfl
  | h :: t, hl => by
    show hunksOf (hkBytes h ++ printOf t) = _
    rw [hunksOf_cons h _ (hl h (by simp)), hunksOf_print t (fun x hx => hl x (by simp [hx]))]
    rfl
/-- What a base becomes: (the error's number, the bytes). -/
def applyGo (base : List Int) : List (Option Hk) → Nat → List Int → Nat × List Int
  | [], at', out => (0, out ++ base.drop at')
  | none :: _, _, _ => (3, [])
  | some h :: t, at', out => if h.fr < at' ∨ h.to < h.fr ∨ base.length < h.to then (4, []) else applyGo base t h.to (out ++ sub base at' (h.fr - at') ++ h.ys)
def applyOf (base p : List Int) (most : Int) : Nat × List Int :=
  if (applyGo base (hunksOf p) 0 []).1 = 0 then (if most < ((applyGo base (hunksOf p) 0 []).2.length : Int) then (2, []) else applyGo base (hunksOf p) 0 []) else applyGo base (hunksOf p) 0 []
theorem take_succ_getD (zs : List Int) (k : Nat) (h : k < zs.length) : zs.take (k + 1) = zs.take k ++ [zs[k]?.getD 0] := by
  rw [List.take_succ_eq_append_getElem h, List.getElem?_eq_getElem h]; rfl
theorem num_lt : ∀ (k : Nat) (xs : List Int), xs.length = k → (∀ x ∈ xs, 0 ≤ x ∧ x ≤ 255) → num xs < 256 ^ k
  | 0, xs, h, _ => by
    obtain rfl : xs = [] := List.eq_nil_of_length_eq_zero h
    simp [num]
  | k + 1, xs, h, hb => by
    have hne : xs ≠ [] := by intro e; subst e; simp at h
    have e := (List.dropLast_concat_getLast hne).symm
    rw [e, num_snoc]
    have h1 := num_lt k xs.dropLast (by simp [h]) (fun x hx => hb x (List.dropLast_subset _ hx))
    have h2 := hb _ (List.getLast_mem hne)
    have : (xs.getLast hne).toNat ≤ 255 := by omega
    rw [Nat.pow_succ]
    omega
theorem or_byte (n : Nat) (x : Int) (hn : n < 16777216) (hx : 0 ≤ x ∧ x ≤ 255) : bits .or .u64 ((n : Int) * 256) x = ((n * 256 + x.toNat : Nat) : Int) := by
  obtain ⟨m, rfl⟩ := Int.eq_ofNat_of_zero_le hx.1
  have hm : m < 256 := by omega
  show IntKind.u64.wrap ((BitVec.ofInt 64 _ ||| BitVec.ofInt 64 _ : BitVec 64).toNat : Int) = _
  rw [BitVec.toNat_or, BitVec.toNat_ofInt, BitVec.toNat_ofInt]
  have e1 : (((n : Int) * 256) % ((2 ^ 64 : Nat) : Int)).toNat = n <<< 8 := by rw [Nat.shiftLeft_eq]; omega
  have e2 : ((m : Int) % ((2 ^ 64 : Nat) : Int)).toNat = m := by omega
  rw [e1, e2, ← Nat.shiftLeft_add_eq_or_of_lt (by omega : m < 2 ^ 8), Nat.shiftLeft_eq, IntKind.wrap_u64]
  simp only [Int.toNat_natCast]
  omega
end Plain
end Go.Proofs.Ytbkifjmfmiipnaa
