/- Bytes in blocks of their own, and back: plainly. -/
import Derived.Test.YtglgchjkonjpiaaGreatDoorBase
import Derived.Test.YtglgchjkonjpiaaGreatDoorInfE
import Derived.Test.YtglgchjkonjpiaaGreatDoorPck
/-! Bytes in blocks of their own, and back: plainly. -/
namespace Go.Proofs.YtglgchjkonjpiaaGreatDoor
set_option linter.unusedVariables false
namespace Plain
def hdrS (last n : Nat) : List Int := [(last : Int), ((n % 256 : Nat) : Int), ((n / 256 : Nat) : Int), ((255 - n % 256 : Nat) : Int), ((255 - n / 256 : Nat) : Int)]
theorem hdrS_range {last n : Nat} (hl : last ≤ 1) (hn : n ≤ 65535) : ∀ x ∈ hdrS last n, 0 ≤ x ∧ x ≤ 255 := fun x hx => by
  simp only [hdrS, List.mem_cons, List.mem_nil_iff, or_false] at hx
  rcases hx with rfl | rfl | rfl | rfl | rfl <;> omega
def storedOf (each : Nat) : Nat → List Int → List Int
  | 0, _ => []
  | f + 1, xs => if xs.length ≤ each then hdrS 1 xs.length ++ xs else hdrS 0 each ++ xs.take each ++ storedOf each f (xs.drop each)
theorem storedOf_same {each : Nat} (he : 1 ≤ each) : ∀ (f g : Nat) (xs : List Int), xs.length < f → xs.length < g → storedOf each f xs = storedOf each g xs
  | 0, g, xs, h, h2 => by omega
  | f + 1, 0, xs, h, h2 => by omega
  | f + 1, g + 1, xs, h, h2 => by
    rw [storedOf, storedOf]
    split
    · rfl
    · rw [storedOf_same he f g (xs.drop each) (by rw [List.length_drop]; omega) (by rw [List.length_drop]; omega)]
theorem storedOf_range {each : Nat} (he : each ≤ 65535) : ∀ (f : Nat) (xs : List Int), (∀ x ∈ xs, 0 ≤ x ∧ x ≤ 255) → ∀ x ∈ storedOf each f xs, 0 ≤ x ∧ x ≤ 255
  | 0, xs, h, x, hx => by cases hx
  | f + 1, xs, h, x, hx => by
    rw [storedOf] at hx
    split at hx
    · rcases List.mem_append.1 hx with hx | hx
      · exact hdrS_range (by omega) (by omega) x hx
      · exact h x hx
    · rcases List.mem_append.1 hx with hx | hx
      · rcases List.mem_append.1 hx with hx | hx
        · exact hdrS_range (by omega) (by omega) x hx
        · exact h x (List.mem_of_mem_take hx)
      · exact storedOf_range he f _ (fun y hy => h y (List.mem_of_mem_drop hy)) x hx
theorem storedOf_len {each : Nat} (he : 1 ≤ each) : ∀ (f : Nat) (xs : List Int), xs.length < f → (storedOf each f xs).length ≤ xs.length + 5 * (xs.length + 1)
  | 0, xs, h => by omega
  | f + 1, xs, h => by
    rw [storedOf]
    split
    · rw [List.length_append]; show 5 + xs.length ≤ _; omega
    · have := storedOf_len he f (xs.drop each) (by rw [List.length_drop]; omega)
      rw [List.length_drop] at this
      rw [List.length_append, List.length_append, List.length_take]
      show 5 + min each xs.length + _ ≤ _
      omega
theorem step_stored (last n : Nat) (hl : last ≤ 1) (hn : n ≤ 65535) (chunk rest : List Int) (hc : chunk.length = n) (hr : ∀ x ∈ chunk ++ rest, 0 ≤ x ∧ x ≤ 255) (most : Nat) (made : List Int) (hm : made.length + n ≤ most) :
    stepR (hdrS last n ++ (chunk ++ rest)) (streamN (hdrS last n ++ (chunk ++ rest))) (8 * (hdrS last n ++ (chunk ++ rest)).length) most 0 made = .ok (last, 40 + 8 * n, made ++ chunk) := by
  have hx : ∀ x ∈ hdrS last n ++ (chunk ++ rest), 0 ≤ x ∧ x ≤ 255 := fun x hx => by
    rcases List.mem_append.1 hx with h | h
    · exact hdrS_range hl hn x h
    · exact hr x h
  have hlen : (hdrS last n ++ (chunk ++ rest)).length = 5 + (n + rest.length) := by rw [List.length_append, List.length_append, hc]; rfl
  have g0 : (hdrS last n ++ (chunk ++ rest))[0]?.getD 0 = (last : Int) := rfl
  have g1 : (hdrS last n ++ (chunk ++ rest))[1]?.getD 0 = ((n % 256 : Nat) : Int) := rfl
  have g2 : (hdrS last n ++ (chunk ++ rest))[1 + 1]?.getD 0 = ((n / 256 : Nat) : Int) := rfl
  have g3 : (hdrS last n ++ (chunk ++ rest))[3]?.getD 0 = ((255 - n % 256 : Nat) : Int) := rfl
  have g4 : (hdrS last n ++ (chunk ++ rest))[3 + 1]?.getD 0 = ((255 - n / 256 : Nat) : Int) := rfl
  have g5 : ((hdrS last n ++ (chunk ++ rest)).drop 5).take n = chunk := by
    show (chunk ++ rest).take n = chunk
    rw [← hc, List.take_left]
  generalize hdrS last n ++ (chunk ++ rest) = bs at *
  have k1 : num (streamN bs) (8 * bs.length) 0 1 = .ok (last, 1) := by
    have := num_byte hx 0 (by omega) 1 0 (by omega)
    rw [g0, Int.toNat_natCast, Nat.pow_zero, Nat.div_one, Nat.mod_eq_of_lt (by omega)] at this; exact this
  have k2 : num (streamN bs) (8 * bs.length) 1 2 = .ok (0, 3) := by
    have := num_byte hx 0 (by omega) 2 1 (by omega)
    rw [g0, Int.toNat_natCast, Nat.div_eq_of_lt (by omega)] at this; exact this
  have k3 : num (streamN bs) (8 * bs.length) 8 16 = .ok (n, 24) := by
    have := num_two hx 1 (by omega)
    rw [g1, g2, Int.toNat_natCast, Int.toNat_natCast, show n % 256 + 256 * (n / 256) = n by omega] at this; exact this
  have k4 : num (streamN bs) (8 * bs.length) 24 16 = .ok (65535 - n, 40) := by
    have := num_two hx 3 (by omega)
    rw [g3, g4, Int.toNat_natCast, Int.toNat_natCast, show 255 - n % 256 + 256 * (255 - n / 256) = 65535 - n by omega] at this; exact this
  have h2 : blockN bs (streamN bs) (8 * bs.length) most 0 3 made = .ok (40 + 8 * n, made ++ chunk) := by
    unfold blockN
    rw [if_pos rfl, storedN, show 8 * ((3 + 7) / 8) = 8 by rfl, k3]
    simp only []
    rw [k4]
    simp only []
    rw [if_neg (by omega), if_neg (by omega), if_neg (by omega), show 40 / 8 = 5 by rfl, g5]
  unfold stepR
  rw [k1]
  simp only []
  rw [k2]
  simp only []
  rw [h2]
theorem stored_back {each : Nat} (he : 1 ≤ each) (he2 : each ≤ 65535) (most : Nat) : ∀ (f : Nat) (xs made : List Int), (∀ x ∈ xs, 0 ≤ x ∧ x ≤ 255) → xs.length < f → made.length + xs.length ≤ most →
    rawAt (storedOf each f xs) (streamN (storedOf each f xs)) most 0 made = .ok (8 * (storedOf each f xs).length, made ++ xs)
  | 0, xs, made, hx, hf, hm => by omega
  | f + 1, xs, made, hx, hf, hm => by
    rw [rawAt_step (Nat.zero_le _), storedOf]
    split
    · rename_i hle
      have := step_stored 1 xs.length (by omega) (by omega) xs [] rfl (by rw [List.append_nil]; exact hx) most made hm
      rw [List.append_nil] at this
      rw [this]
      simp only [contR]
      rw [if_neg (by omega), List.length_append]
      show Except.ok (_, _) = Except.ok (8 * (5 + xs.length), _)
      rw [show 40 + 8 * xs.length = 8 * (5 + xs.length) by omega]
    · rename_i hle
      have htl : (xs.take each).length = each := by rw [List.length_take]; omega
      have hrest : ∀ x ∈ xs.drop each, 0 ≤ x ∧ x ≤ 255 := fun x h => hx x (List.mem_of_mem_drop h)
      have hall : ∀ x ∈ xs.take each ++ storedOf each f (xs.drop each), 0 ≤ x ∧ x ≤ 255 := fun x h => by
        rcases List.mem_append.1 h with h | h
        · exact hx x (List.mem_of_mem_take h)
        · exact storedOf_range he2 f _ hrest x h
      have hs := step_stored 0 each (by omega) he2 (xs.take each) (storedOf each f (xs.drop each)) htl hall most made (by omega)
      rw [List.append_assoc, hs]
      simp only [contR]
      rw [if_pos trivial, ← List.append_assoc]
      have hcl : (hdrS 0 each ++ xs.take each).length = 5 + each := by rw [List.length_append, htl]; rfl
      have hsh := raw_shift (hdrS 0 each ++ xs.take each) (storedOf each f (xs.drop each)) (fun x h => by
        rcases List.mem_append.1 h with h | h
        · exact hdrS_range (by omega) he2 x h
        · exact hx x (List.mem_of_mem_take h)) most 0 (made ++ xs.take each)
      rw [hcl, show 0 + 8 * (5 + each) = 40 + 8 * each by omega, stored_back he he2 most f (xs.drop each) (made ++ xs.take each) hrest (by rw [List.length_drop]; omega) (by rw [List.length_append, htl, List.length_drop]; omega)] at hsh
      rw [hsh]
      simp only [sh1]
      rw [List.append_assoc, List.take_append_drop, List.length_append, hcl, show 8 * (storedOf each f (xs.drop each)).length + 8 * (5 + each) = 8 * (5 + each + (storedOf each f (xs.drop each)).length) by omega]
end Plain
end Go.Proofs.YtglgchjkonjpiaaGreatDoor
/-! What packing lays down in blocks of their own, plainly, and in one row. -/
namespace Go.Proofs.YtglgchjkonjpiaaGreatDoor
open Go.RowKit Plain
set_option linter.unusedVariables false
theorem xor16 {n : Int} (h : 0 ≤ n ∧ n ≤ 65535) : bits .xor .u16 (if IntKind.u16.signed = true then -1 else IntKind.u16.max) n = 65535 - n := by
  obtain ⟨k, rfl⟩ : ∃ k : Nat, n = (k : Int) := ⟨n.toNat, by omega⟩
  have hk : k < 65536 := by omega
  show IntKind.u16.wrap ((BitVec.ofInt 16 _ ^^^ BitVec.ofInt 16 _ : BitVec 16).toNat : Int) = _
  have e1 : BitVec.ofInt 16 (if IntKind.u16.signed = true then -1 else IntKind.u16.max) = BitVec.allOnes 16 := by decide
  rw [e1, BitVec.allOnes_xor, BitVec.toNat_not, BitVec.toNat_ofInt]
  have e2 : (((k : Nat) : Int) % ((2 ^ 16 : Nat) : Int)).toNat = k := by omega
  rw [e2, IntKind.wrap_u16]
  omega
theorem hdr_eq (last n : Nat) (hn : n ≤ 65535) : hdr (last : Int) (n : Int) = hdrS last n := by
  unfold hdr hdrS
  rw [xor16 (by omega)]
  have e1 : (n : Int) % 256 = ((n % 256 : Nat) : Int) := by omega
  have e2 : (n : Int) / 256 = ((n / 256 : Nat) : Int) := by omega
  have e3 : (65535 - (n : Int)) % 256 = ((255 - n % 256 : Nat) : Int) := by omega
  have e4 : (65535 - (n : Int)) / 256 % 256 = ((255 - n / 256 : Nat) : Int) := by omega
  rw [e1, e2, e3, e4]
theorem cont_one (xs : List Int) (h : xs.length ≤ 65535) : cont xs 1 1 = storedOf 65535 (xs.length + 1) xs := by
  have e : part xs.length 0 = xs.length := by unfold part; omega
  rw [cont, cont, storedOf, if_pos h, e, if_pos rfl]
  have := hdr_eq 1 xs.length h
  simp only [Nat.zero_mul, List.drop_zero, List.take_length, List.nil_append]
  rw [← this]; rfl
theorem cont_two (xs : List Int) (h : ¬ xs.length ≤ 65535) (h2 : xs.length ≤ 131070) : cont xs 2 2 = storedOf 65535 (xs.length + 1) xs := by
  obtain ⟨f, hf⟩ : ∃ f, xs.length = f + 1 := ⟨xs.length - 1, by omega⟩
  have e0 : part xs.length 0 = 65535 := by unfold part; omega
  have e1 : part xs.length 1 = xs.length - 65535 := by unfold part; omega
  have hd : (xs.drop 65535).length = xs.length - 65535 := List.length_drop ..
  have a1 := hdr_eq 0 65535 (by omega)
  have a2 := hdr_eq 1 (xs.length - 65535) (by omega)
  have e2 : hdr 0 ((65535 : Nat) : Int) = hdrS 0 65535 := a1
  have e3 : hdr 1 ((xs.length - 65535 : Nat) : Int) = hdrS 1 (xs.length - 65535) := a2
  have s1 : storedOf 65535 (xs.length + 1) xs = hdrS 0 65535 ++ xs.take 65535 ++ storedOf 65535 xs.length (xs.drop 65535) := by rw [storedOf, if_neg h]
  have s2 : storedOf 65535 xs.length (xs.drop 65535) = hdrS 1 (xs.length - 65535) ++ xs.drop 65535 := by
    have : storedOf 65535 (f + 1) (xs.drop 65535) = hdrS 1 (xs.length - 65535) ++ xs.drop 65535 := by
      rw [storedOf, if_pos (by rw [hd]; omega), hd]
    rw [← hf] at this; exact this
  have s3 : cont xs 2 2 = cont xs 2 0 ++ hdr (if 0 + 1 = 2 then 1 else 0) (part xs.length 0) ++ (xs.drop (0 * 65535)).take (part xs.length 0) ++ hdr (if 1 + 1 = 2 then 1 else 0) (part xs.length 1) ++ (xs.drop (1 * 65535)).take (part xs.length 1) := rfl
  rw [s3, s1, s2, e0, e1, if_neg (by omega), if_pos (by omega), e2, e3, Nat.zero_mul, Nat.one_mul, List.drop_zero, List.take_of_length_le (l := xs.drop 65535) (by rw [hd]; exact Nat.le_refl _)]
  show [] ++ _ ++ _ ++ _ ++ _ = _
  simp only [List.nil_append, List.append_assoc]
theorem storedS_any (a : Option Addr) (n c : Nat) (xs : List Int) (w : World) (H : RowB w a n c xs) (hn : n ≤ 131070) :
    Calls Tryz.prog 49 #[.slice a n c] w fun e w' => (∃ va vc, e = .returned (.slice va (storedOf 65535 (n + 1) xs).length vc) ∧ RowB w' va (storedOf 65535 (n + 1) xs).length vc (storedOf 65535 (n + 1) xs)) ∧ Below w.heap.size w w' := by
  have hl := H.len
  by_cases h0 : 0 < n
  · by_cases h1 : n ≤ 65535
    · have hc := cont_one xs (by omega)
      rw [hl] at hc
      refine (stored_some a n c xs w h0 H.le (by omega) H.cap H.nil H.bytes 1 (by omega)).mono ?_
      rintro e w' ⟨⟨a', c', rfl, hb, h2, h3, h4⟩, h5⟩
      rw [hc] at hb
      have hs := hb.1
      rw [hs]
      exact ⟨⟨a', c', rfl, h2, h4, h3, hb⟩, h5⟩
    · have hc := cont_two xs (by omega) (by omega)
      rw [hl] at hc
      refine (stored_some a n c xs w h0 H.le (by omega) H.cap H.nil H.bytes 2 (by omega)).mono ?_
      rintro e w' ⟨⟨a', c', rfl, hb, h2, h3, h4⟩, h5⟩
      rw [hc] at hb
      have hs := hb.1
      rw [hs]
      exact ⟨⟨a', c', rfl, h2, h4, h3, hb⟩, h5⟩
  · obtain rfl : n = 0 := by omega
    obtain rfl : xs = [] := List.eq_nil_of_length_eq_zero hl
    have hc : hdr 1 0 = storedOf 65535 (0 + 1) [] := by rw [storedOf, if_pos (by simp)]; exact hdr_eq 1 0 (by omega)
    refine (stored_zero a c w H.nil).mono ?_
    rintro e w' ⟨⟨a', c', rfl, hb, h2, h3, h4⟩, h5⟩
    rw [hc] at hb
    have hs := hb.1
    rw [hs]
    exact ⟨⟨a', c', rfl, h2, h4, h3, hb⟩, h5⟩
end Go.Proofs.YtglgchjkonjpiaaGreatDoor
