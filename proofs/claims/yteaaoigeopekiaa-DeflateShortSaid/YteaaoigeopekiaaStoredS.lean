/- What packing lays down in blocks of their own, plainly, and in one row. -/
import Derived.Test.YteaaoigeopekiaaWalks
import Derived.Test.YteaaoigeopekiaaStoredBack
import Derived.Test.YteaaoigeopekiaaRowParts
namespace Go.Proofs.Yteaaoigeopekiaa
open Go.RowKit Plain
set_option linter.unusedVariables false
theorem xor16 {n : Int} (h : 0 ≤ n ∧ n ≤ 65535) : bits .xor .u16 (if IntKind.u16.signed = true then -1 else IntKind.u16.max) n = 65535 - n := by
  obtain ⟨k, rfl⟩ : ∃ k : Nat, n = (k : Int) := ⟨n.toNat, by omega⟩
  have hk : k < 65536 := by omega
  show IntKind.u16.wrap ((BitVec.ofInt 16 _ ^^^ BitVec.ofInt 16 _ : BitVec 16).toNat : Int) = _
  have e1 : BitVec.ofInt 16 (if IntKind.u16.signed = true then -1 else IntKind.u16.max) = BitVec.allOnes 16 := by decide
  rw [e1, BitVec.allOnes_xor, BitVec.toNat_not, BitVec.toNat_ofInt]
  have e2 : (((k : Nat) : Int) % ((2 ^ 16 : Nat) : Int)).toNat = k := by omega
  rw [e2, IntKind.wrap_u16]
  omega
theorem hdr_eq (last n : Nat) (hn : n ≤ 65535) : hdr (last : Int) (n : Int) = hdrS last n := by
  unfold hdr hdrS
  rw [xor16 (by omega)]
  have e1 : (n : Int) % 256 = ((n % 256 : Nat) : Int) := by omega
  have e2 : (n : Int) / 256 = ((n / 256 : Nat) : Int) := by omega
  have e3 : (65535 - (n : Int)) % 256 = ((255 - n % 256 : Nat) : Int) := by omega
  have e4 : (65535 - (n : Int)) / 256 % 256 = ((255 - n / 256 : Nat) : Int) := by omega
  rw [e1, e2, e3, e4]
theorem cont_one (xs : List Int) (h : xs.length ≤ 65535) : cont xs 1 1 = storedOf 65535 (xs.length + 1) xs := by
  have e : part xs.length 0 = xs.length := by unfold part; omega
  rw [cont, cont, storedOf, if_pos h, e, if_pos rfl]
  have := hdr_eq 1 xs.length h
  simp only [Nat.zero_mul, List.drop_zero, List.take_length, List.nil_append]
  rw [← this]; rfl
theorem cont_two (xs : List Int) (h : ¬ xs.length ≤ 65535) (h2 : xs.length ≤ 131070) : cont xs 2 2 = storedOf 65535 (xs.length + 1) xs := by
  obtain ⟨f, hf⟩ : ∃ f, xs.length = f + 1 := ⟨xs.length - 1, by omega⟩
  have e0 : part xs.length 0 = 65535 := by unfold part; omega
  have e1 : part xs.length 1 = xs.length - 65535 := by unfold part; omega
  have hd : (xs.drop 65535).length = xs.length - 65535 := List.length_drop ..
  have a1 := hdr_eq 0 65535 (by omega)
  have a2 := hdr_eq 1 (xs.length - 65535) (by omega)
  have e2 : hdr 0 ((65535 : Nat) : Int) = hdrS 0 65535 := a1
  have e3 : hdr 1 ((xs.length - 65535 : Nat) : Int) = hdrS 1 (xs.length - 65535) := a2
  have s1 : storedOf 65535 (xs.length + 1) xs = hdrS 0 65535 ++ xs.take 65535 ++ storedOf 65535 xs.length (xs.drop 65535) := by rw [storedOf, if_neg h]
  have s2 : storedOf 65535 xs.length (xs.drop 65535) = hdrS 1 (xs.length - 65535) ++ xs.drop 65535 := by
    have : storedOf 65535 (f + 1) (xs.drop 65535) = hdrS 1 (xs.length - 65535) ++ xs.drop 65535 := by
      rw [storedOf, if_pos (by rw [hd]; omega), hd]
    rw [← hf] at this; exact this
  have s3 : cont xs 2 2 = cont xs 2 0 ++ hdr (if 0 + 1 = 2 then 1 else 0) (part xs.length 0) ++ (xs.drop (0 * 65535)).take (part xs.length 0) ++ hdr (if 1 + 1 = 2 then 1 else 0) (part xs.length 1) ++ (xs.drop (1 * 65535)).take (part xs.length 1) := rfl
  rw [s3, s1, s2, e0, e1, if_neg (by omega), if_pos (by omega), e2, e3, Nat.zero_mul, Nat.one_mul, List.drop_zero, List.take_of_length_le (l := xs.drop 65535) (by rw [hd]; exact Nat.le_refl _)]
  show [] ++ _ ++ _ ++ _ ++ _ = _
  simp only [List.nil_append, List.append_assoc]
theorem storedS_any (a : Option Addr) (n c : Nat) (xs : List Int) (w : World) (H : RowB w a n c xs) (hn : n ≤ 131070) :
    Calls Try.prog 13 #[.slice a n c] w fun e w' => (∃ va vc, e = .returned (.slice va (storedOf 65535 (n + 1) xs).length vc) ∧ RowB w' va (storedOf 65535 (n + 1) xs).length vc (storedOf 65535 (n + 1) xs)) ∧ Below w.heap.size w w' := by
  have hl := H.len
  by_cases h0 : 0 < n
  · by_cases h1 : n ≤ 65535
    · have hc := cont_one xs (by omega)
      rw [hl] at hc
      refine (stored_some a n c xs w h0 H.le (by omega) H.cap H.nil H.bytes 1 (by omega)).mono ?_
      rintro e w' ⟨⟨a', c', rfl, hb, h2, h3, h4⟩, h5⟩
      rw [hc] at hb
      have hs := hb.1
      rw [hs]
      exact ⟨⟨a', c', rfl, h2, h4, h3, hb⟩, h5⟩
    · have hc := cont_two xs (by omega) (by omega)
      rw [hl] at hc
      refine (stored_some a n c xs w h0 H.le (by omega) H.cap H.nil H.bytes 2 (by omega)).mono ?_
      rintro e w' ⟨⟨a', c', rfl, hb, h2, h3, h4⟩, h5⟩
      rw [hc] at hb
      have hs := hb.1
      rw [hs]
      exact ⟨⟨a', c', rfl, h2, h4, h3, hb⟩, h5⟩
  · obtain rfl : n = 0 := by omega
    obtain rfl : xs = [] := List.eq_nil_of_length_eq_zero hl
    have hc : hdr 1 0 = storedOf 65535 (0 + 1) [] := by rw [storedOf, if_pos (by simp)]; exact hdr_eq 1 0 (by omega)
    refine (stored_zero a c w H.nil).mono ?_
    rintro e w' ⟨⟨a', c', rfl, hb, h2, h3, h4⟩, h5⟩
    rw [hc] at hb
    have hs := hb.1
    rw [hs]
    exact ⟨⟨a', c', rfl, h2, h4, h3, hb⟩, h5⟩
end Go.Proofs.Yteaaoigeopekiaa
