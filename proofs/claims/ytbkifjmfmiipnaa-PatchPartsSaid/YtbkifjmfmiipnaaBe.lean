/- The document's four bytes of a number: the walk. -/
import Derived.Test.YtbkifjmfmiipnaaMath
import Derived.Test.YtbkifjmfmiipnaaSub
namespace Go.Proofs.Ytbkifjmfmiipnaa
open Go.RowKit Plain
set_option linter.unusedVariables false
def beTo (n : Nat) : Nat → List Int
  | 0 => []
  | k + 1 => ((n / 256 ^ k % 256 : Nat) : Int) :: beTo n k
theorem beTo_length (n : Nat) : ∀ k, (beTo n k).length = k
  | 0 => rfl
  | k + 1 => by simp [beTo, beTo_length n k]
theorem beTo_bytes (n : Nat) : ∀ k, ∀ x ∈ beTo n k, 0 ≤ x ∧ x ≤ 255
  | 0, x, h => by simp [beTo] at h
  | k + 1, x, h => by
    simp only [beTo, List.mem_cons] at h
    rcases h with rfl | h
    · omega
    · exact beTo_bytes n k x h
theorem beTo_4 (n : Nat) : beTo n 4 = be4 n := by
  simp [beTo, be4]
theorem range_of_mem {xs : List Int} (h : ∀ x ∈ xs, 0 ≤ x ∧ x ≤ 255) (j : Nat) : 0 ≤ xs[j]?.getD 0 ∧ xs[j]?.getD 0 ≤ 255 := by
  by_cases hj : j < xs.length
  · rw [List.getElem?_eq_getElem hj]; exact h _ (List.getElem_mem hj)
  · rw [List.getElem?_eq_none (by omega)]; simp
theorem Own.lit1 (w : World) (x : Int) : Own (w.alloc (.cells #[.int .u8 x] 5)) w.heap.size (.slice (some ⟨w.heap.size, 0, none⟩) 1 1) 1 [x] :=
  ⟨rfl, .inr ⟨w.heap.size, 1, #[.int .u8 x], rfl, Nat.le_refl _, by show (w.heap.push _)[w.heap.size]? = _; simp, Nat.le_refl _, by unfold maxLen; omega, rfl, rfl⟩⟩
theorem Own.lower {w : World} {base base' : Nat} {v : Value} {n : Nat} {xs : List Int} (h : Own w base v n xs) (hb : base' ≤ base) : Own w base' v n xs := by
  obtain ⟨h1, h2 | ⟨g, cap, cur, h3, h4, h5⟩⟩ := h
  · exact ⟨h1, .inl h2⟩
  · exact ⟨h1, .inr ⟨g, cap, cur, h3, Nat.le_trans hb h4, h5⟩⟩
set_option maxHeartbeats 2000000 in
theorem be_any (n : Nat) (hn : n < 18446744073709551616) (w : World) :
    Calls Try.prog 16 #[.int .u64 (n : Int), .int .i64 4] w fun e w' => (∃ a c, e = .returned (.slice a 4 c) ∧ Own w' w.heap.size (.slice a 4 c) 4 (be4 n)) ∧ Below w.heap.size w w' := by
  go_enter Try.func16, Try.ntmps16
  go_wp2
  go_loopw [0, 5, 6] (fun u v i wr => ∃ (k m c : Nat) (a : Option Addr), k ≤ 4 ∧ i = .int .i64 (k : Int) ∧ u = .int .u64 (m : Int) ∧ m = n / 256 ^ k ∧ v = .slice a k c ∧ Own wr w.heap.size (.slice a k c) k (beTo n k) ∧ Below w.heap.size w wr) (fun _ _ i _ => 4 - (intOf i).toNat)
  case atStart => exact ⟨0, n, 0, none, by omega, rfl, rfl, by simp, rfl, ⟨rfl, .inl ⟨rfl, rfl⟩⟩, Below.refl _ _⟩
  case round =>
    obtain ⟨k, m, c, a, hk, rfl, rfl, hm, rfl, hown, hbel⟩ := hrel
    have HO : Hid (Own wr w.heap.size (.slice a k c) k (beTo n k)) := hown
    have HBE : Hid (Below w.heap.size w wr) := hbel
    have HM : Hid (m = n / 256 ^ k) := hm
    have HSZ : Hid (w.heap.size ≤ wr.heap.size) := hbel.size
    have hmn : m ≤ n := by rw [hm]; exact Nat.div_le_self _ _
    have HNIL : Hid (a = none → c = 0) := by
      obtain ⟨a', c', e, h1, h2, -⟩ := hown.shape
      simp only [Value.slice.injEq, true_and] at e
      obtain ⟨rfl, rfl⟩ := e
      exact h2
    have HBY : Hid (Bytes wr a k (beTo n k)) := hown.bytes (range_of_mem (beTo_bytes n k))
    clear hown hbel hm
    by_cases hlt : k < 4
    · have i1 : (k : Int) < 8 := by omega
      have i2 : (k : Int) < 4 := by omega
      have HX : Hid (((m : Int) % 256 :: beTo n k) = beTo n (k + 1)) := by show _ = _; rw [HM.out]; rfl
      go_wp2_with (
        at_builtin
        refine wpList_append_bytes rfl _ _ rfl w.heap.size _ 1 [((m : Int) % 256)] rfl ((Own.lit1 wr ((m : Int) % 256)).lower HSZ.out) a k c (beTo n k) rfl (HBY.out.below ((Below.refl _ _).alloc (Nat.le_refl _) _)) HNIL.out (by omega) (by simp; have := HSZ.out; omega) ?_
        intro v' w2 hown2 hg2
        have hk2 : Below w.heap.size w w2 := (HBE.out.alloc HSZ.out _).trans (((Own.lit1 wr ((m : Int) % 256)).lower HSZ.out).kept (by simp; have := HSZ.out; omega) hg2)
        rw [List.singleton_append, HX.out, Nat.add_comm] at hown2
        obtain ⟨a2, c2, rfl, -, -, -⟩ := hown2.shape)
      exact ⟨⟨k + 1, m / 256, c2, a2, by omega, by go_num, by go_num, by rw [HM.out, Nat.div_div_eq_div_mul, Nat.pow_succ], rfl, hown2, hk2⟩, by simp [intOf]; omega⟩
    · obtain rfl : k = 4 := by omega
      go_wp2
      go_ret
      exact ⟨⟨a, c, rfl, by rw [← beTo_4]; exact HO.out⟩, HBE.out⟩
end Go.Proofs.Ytbkifjmfmiipnaa
