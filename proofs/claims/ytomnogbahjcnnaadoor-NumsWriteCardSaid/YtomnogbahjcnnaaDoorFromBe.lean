/- The number of eight bytes, and the document's bytes of a number: the walks. -/
import Derived.Test.YtomnogbahjcnnaaDoorBe
namespace Go.Proofs.YtomnogbahjcnnaaDoor
open Go.RowKit Plain
set_option linter.unusedVariables false
theorem getD_bytes8 {w : World} {a : Option Addr} {m : Nat} {xs : List Int} (h : Bytes w a m xs) : ∀ x ∈ xs, 0 ≤ x ∧ x ≤ 255 := by
  intro x hx
  obtain ⟨j, hj, rfl⟩ := List.mem_iff_getElem.1 hx
  have := h.2.2.1 j
  rwa [List.getElem?_eq_getElem hj] at this
set_option maxHeartbeats 2000000 in
theorem fromBe_any (a : Option Addr) (cap : Nat) (xs : List Int) (w : World) (hcap : 8 ≤ cap) (H : Bytes w a 8 xs) :
    Calls Tryd.prog 23 #[.slice a 8 cap] w fun e w' => e = .returned (.int .u64 (num xs : Int)) ∧ w' = w := by
  have HN : Hid (∀ k, k ≤ 8 → num (xs.take k) < 256 ^ k) := fun k hk => num_lt k _ (by rw [List.length_take, H.1]; omega) (fun x hx => getD_bytes8 H x (List.mem_of_mem_take hx))
  obtain ⟨hz, -, hr, h0 | ⟨b, off, rfl, hc⟩⟩ := H
  · omega
  have HZ : Hid (xs.length = 8) := hz
  have HR : Hid (∀ j : Nat, 0 ≤ xs[j]?.getD 0 ∧ xs[j]?.getD 0 ≤ 255) := hr
  have HC : Hid (∀ j, j < 8 → w.cell? ⟨b, off + j, none⟩ = some (.int .u8 (xs[j]?.getD 0))) := hc
  clear hz hr hc
  go_enter Tryd.func23, Tryd.ntmps23
  go_wp2
  go_loop [3, 13] (fun n i => ∃ (k m : Nat), k ≤ 8 ∧ i = .int .i64 k ∧ n = .int .u64 (m : Int) ∧ m = num (xs.take k)) (fun _ i => 8 - (intOf i).toNat)
  case atStart => exact ⟨0, 0, by omega, rfl, rfl, rfl⟩
  case round =>
    obtain ⟨k, m, hk, rfl, rfl, hm⟩ := hrel
    have HM : Hid (m = num (xs.take k)) := hm
    by_cases hlt : k < 8
    · have hcell := HC.out k hlt
      have hr := HR.out k
      have hlim : m < 72057594037927936 := by
        have := HN.out k hk
        rw [← hm] at this
        have h2 : (256 : Nat) ^ k ≤ 256 ^ 7 := Nat.pow_le_pow_right (by omega) (by omega)
        omega
      have hor := or_byte m _ hlim hr
      have HS : Hid (m * 256 + (xs[k]?.getD 0).toNat = num (xs.take (k + 1))) := by
        show _ = _
        rw [take_succ_getD xs k (by rw [HZ.out]; exact hlt), num_snoc, hm]
      clear hm
      generalize xs[k]?.getD 0 = x at *
      go_wp2
      go_round
      case rel => exact ⟨k + 1, m * 256 + x.toNat, by omega, by go_num, congrArg (Value.int .u64) (by omega), HS.out⟩
      case measure => simp [intOf]; omega
    · obtain rfl : k = 8 := by omega
      clear hm
      go_wp2
      go_ret
      rw [HM.out, List.take_of_length_le (by rw [HZ.out]; omega)]
      exact ⟨rfl, rfl⟩
theorem Own.lit1 (w : World) (x : Int) : Own (w.alloc (.cells #[.int .u8 x] 5)) w.heap.size (.slice (some ⟨w.heap.size, 0, none⟩) 1 1) 1 [x] :=
  ⟨rfl, .inr ⟨w.heap.size, 1, #[.int .u8 x], rfl, Nat.le_refl _, by show (w.heap.push _)[w.heap.size]? = _; simp, Nat.le_refl _, by unfold maxLen; omega, rfl, rfl⟩⟩
theorem Own.lower {w : World} {base base' : Nat} {v : Value} {n : Nat} {xs : List Int} (h : Own w base v n xs) (hb : base' ≤ base) : Own w base' v n xs := by
  obtain ⟨h1, h2 | ⟨g, cap, cur, h3, h4, h5⟩⟩ := h
  · exact ⟨h1, .inl h2⟩
  · exact ⟨h1, .inr ⟨g, cap, cur, h3, Nat.le_trans hb h4, h5⟩⟩
set_option maxHeartbeats 2000000 in
theorem refBe_any (n : Nat) (hn : n < 18446744073709551616) (s : Int) (sz : Nat) (hs : min (max s 0) 8 = (sz : Int)) (w : World) :
    Calls Tryd.prog 10 #[.int .u64 (n : Int), .int .i64 s] w fun e w' => (∃ a c, e = .returned (.slice a sz c) ∧ Own w' w.heap.size (.slice a sz c) sz (beTo n sz)) ∧ Below w.heap.size w w' := by
  go_enter Tryd.func10, Tryd.ntmps10
  go_wp2
  go_loopw [0, 5, 6] (fun u v i wr => ∃ (k m c : Nat) (a : Option Addr), k ≤ sz ∧ i = .int .i64 (k : Int) ∧ u = .int .u64 (m : Int) ∧ m = n / 256 ^ k ∧ v = .slice a k c ∧ Own wr w.heap.size (.slice a k c) k (beTo n k) ∧ Below w.heap.size w wr) (fun _ _ i _ => sz - (intOf i).toNat)
  case atStart => exact ⟨0, n, 0, none, by omega, rfl, rfl, by simp, rfl, ⟨rfl, .inl ⟨rfl, rfl⟩⟩, Below.refl _ _⟩
  case round =>
    obtain ⟨k, m, c, a, hk, rfl, rfl, hm, rfl, hown, hbel⟩ := hrel
    have HO : Hid (Own wr w.heap.size (.slice a k c) k (beTo n k)) := hown
    have HBE : Hid (Below w.heap.size w wr) := hbel
    have HM : Hid (m = n / 256 ^ k) := hm
    have HSZ : Hid (w.heap.size ≤ wr.heap.size) := hbel.size
    have hmn : m ≤ n := by rw [hm]; exact Nat.div_le_self _ _
    have HNIL : Hid (a = none → c = 0) := by
      obtain ⟨a', c', e, h1, h2, -⟩ := hown.shape
      simp only [Value.slice.injEq, true_and] at e
      obtain ⟨rfl, rfl⟩ := e
      exact h2
    have HBY : Hid (Bytes wr a k (beTo n k)) := hown.bytes (range_of_mem (beTo_bytes n k))
    clear hown hbel hm
    by_cases hlt : k < sz
    · have i1 : (k : Int) < 8 := by omega
      have i2 : (k : Int) < s := by omega
      have HX : Hid (((m : Int) % 256 :: beTo n k) = beTo n (k + 1)) := by show _ = _; rw [HM.out]; rfl
      go_wp2_with (
        at_builtin
        refine wpList_append_bytes rfl _ _ rfl w.heap.size _ 1 [((m : Int) % 256)] rfl ((Own.lit1 wr ((m : Int) % 256)).lower HSZ.out) a k c (beTo n k) rfl (HBY.out.below ((Below.refl _ _).alloc (Nat.le_refl _) _)) HNIL.out (by omega) (by simp; have := HSZ.out; omega) ?_
        intro v' w2 hown2 hg2
        have hk2 : Below w.heap.size w w2 := (HBE.out.alloc HSZ.out _).trans (((Own.lit1 wr ((m : Int) % 256)).lower HSZ.out).kept (by simp; have := HSZ.out; omega) hg2)
        rw [List.singleton_append, HX.out, Nat.add_comm] at hown2
        obtain ⟨a2, c2, rfl, -, -, -⟩ := hown2.shape)
      exact ⟨⟨k + 1, m / 256, c2, a2, by omega, by go_num, by go_num, by rw [HM.out, Nat.div_div_eq_div_mul, Nat.pow_succ], rfl, hown2, hk2⟩, by simp [intOf]; omega⟩
    · obtain rfl : k = sz := by omega
      by_cases h8 : k < 8
      · have i1 : (k : Int) < 8 := by omega
        have i2 : ¬ (k : Int) < s := by omega
        go_wp2_with fail
        go_ret
        exact ⟨⟨a, c, rfl, HO.out⟩, HBE.out⟩
      · have i1 : ¬ (k : Int) < 8 := by omega
        go_wp2_with fail
        go_ret
        exact ⟨⟨a, c, rfl, HO.out⟩, HBE.out⟩
end Go.Proofs.YtomnogbahjcnnaaDoor
