/- Bytes cut at a byte; an entry cut off a body: the walks. -/
import Derived.Test.YtnbkjdakofeeaaaDoorTrRead
namespace Go.Proofs.YtnbkjdakofeeaaaDoor
open Go.RowKit Plain
set_option linter.unusedVariables false
set_option linter.unusedSimpArgs false
theorem in_of {w : World} {a : Option Addr} {n : Nat} {xs : List Int} (h : Bytes w a n xs) : Lib.BytesIn w a n xs := fun hn => by
  rcases h.2.2.2 with h0 | ⟨b, o, rfl, hc⟩
  · omega
  · exact ⟨b, o, rfl, fun i hi => by rw [List.getD_eq_getElem?_getD]; exact hc i hi⟩
theorem bytesOf_nums (l : List UInt8) : Lib.bytesOf (numsOf (txt l)) = l := by
  rw [numsOf_txt]
  unfold Lib.bytesOf
  rw [List.map_map]
  conv => rhs; rw [← List.map_id l]
  apply List.map_congr_left
  intro x hx
  simp
theorem row_take {w : World} {a : Option Addr} {n c : Nat} {l : List UInt8} (h : RowB w a n c (numsOf (txt l))) (k : Nat) (hk : k ≤ n) : RowB w a k c (numsOf (txt (l.take k))) := by
  have := h.front k hk
  rw [numsOf_txt, ← List.map_take, ← numsOf_txt] at this
  exact this
theorem row_drop {w : World} {a : Option Addr} {n c : Nat} {l : List UInt8} (h : RowB w a n c (numsOf (txt l))) (k : Nat) (hk : k ≤ n) : RowB w (subA a c k) (n - k) (c - k) (numsOf (txt (l.drop k))) := by
  have := h.part k hk
  rw [numsOf_txt, ← List.map_drop, ← numsOf_txt] at this
  exact this
theorem row_len {w : World} {a : Option Addr} {n c : Nat} {l : List UInt8} (h : RowB w a n c (numsOf (txt l))) : l.length = n := by rw [← numsOf_len]; exact h.len
theorem cutb_any (a : Option Addr) (n c : Nat) (L : List UInt8) (p : Option Addr) (k2 : Nat) (z : UInt8) (w w0 : World) (R0 : RowB w0 a n c (numsOf (txt L))) (hw0 : Below w0.heap.size w0 w) (hn : n ≤ 100000) (hy : Bytes w p 1 [(z.toNat : Int)]) (hE : Env w) :
    Calls Tryd.prog 31 #[.slice a n c, .slice p 1 k2] w fun e w' => (∃ a2 n2 c2, e = .returned (.tuple #[.slice a (Lib.cut L [z]).1.length c, .slice a2 n2 c2, .bool (Lib.cut L [z]).2.2]) ∧
      RowB w0 a (Lib.cut L [z]).1.length c (numsOf (txt (Lib.cut L [z]).1)) ∧ RowB w0 a2 n2 c2 (numsOf (txt (Lib.cut L [z]).2.1))) ∧ Below w.heap.size w w' := by
  obtain ⟨m, hm⟩ := hE.most
  have R := R0.below hw0
  have hz := z.toNat_lt
  have hl := R.len
  have hll := row_len R
  have hys : Lib.bytesOf [(z.toNat : Int)] = [z] := by simp [Lib.bytesOf]
  refine (Tryd.bytes_Cut_all a p n c 1 k2 (numsOf (txt L)) [(z.toNat : Int)] m w hl rfl (fun x hx => by have := R.mem x hx; omega) (fun y hy => by simp at hy; omega) (in_of R.bytes) (in_of hy) R.nil R.le (by omega) (by omega) hm).mono ?_
  rintro e w' ⟨rfl, q, rfl⟩
  rw [bytesOf_nums, hys]
  refine ⟨?_, (Below.refl w.heap.size w).trans ⟨rfl, rfl, rfl, Nat.le_refl _, fun _ _ => rfl⟩⟩
  rcases cut_or z L with h | ⟨A, B, rfl, hA⟩
  · rw [index_not _ _ h, cut_not _ _ h, hll]
    exact ⟨none, 0, 0, rfl, R0, RowB.none w0⟩
  · have hc := cut_at A B z hA
    rw [index_at _ _ _ hA, hc]
    have hAl : A.length + 1 ≤ n := by rw [← hll, List.length_append, List.length_cons]; omega
    have h1 := row_take R0 A.length (by omega)
    have h2 := row_drop R0 (A.length + 1) hAl
    rw [List.take_left] at h1
    rw [List.drop_append, List.drop_of_length_le (by omega)] at h2
    simp at h2
    refine ⟨subA a c (A.length + 1), n - (A.length + 1), c - (A.length + 1), ?_, h1, h2⟩
    unfold Lib.cutV Lib.fromV subA
    rw [if_pos (by omega)]
    rfl
end Go.Proofs.YtnbkjdakofeeaaaDoor
