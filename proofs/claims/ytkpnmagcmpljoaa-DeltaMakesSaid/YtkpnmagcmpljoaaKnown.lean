/- The chapter's examples, and the first bytes. -/
import Derived.Test.YtkpnmagcmpljoaaRefMath
namespace Go.Proofs.Ytkpnmagcmpljoaa
open Go.RowKit Plain
set_option linter.unusedVariables false
theorem few_any (a : Option Addr) (n c : Nat) (w : World) (hnc : n ≤ c) (hc : c ≤ 9223372036854775807) :
    Calls Try.prog 8 #[.slice a n c] w fun e w' => e = .returned (.slice a (min n 1000) c) ∧ w' = w := by
  have hm : min n 1000 ≤ c := by omega
  have hm2 : (min (n : Int) 1000).toNat = min n 1000 := by omega
  go_enter Try.func8, Try.ntmps8
  go_wp2_with fail
  · go_ret
    rw [show min n 1000 = 1000 by omega]
    exact ⟨rfl, rfl⟩
  · go_ret
    rw [show min n 1000 = n by omega]
    exact ⟨rfl, rfl⟩
theorem known_sum1 : applyOf [97, 98, 99] [3, 4, 144, 2, 2, 120, 121] 9 = (0, [97, 98, 120, 121]) := by decide +kernel
theorem known_sum2 : applyOf [97, 98, 99] [3, 3, 145, 1, 2, 1, 122] 9 = (0, [98, 99, 122]) := by decide +kernel
theorem range_of_mem {xs : List Int} (h : ∀ x ∈ xs, 0 ≤ x ∧ x ≤ 255) (j : Nat) : 0 ≤ xs[j]?.getD 0 ∧ xs[j]?.getD 0 ≤ 255 := by
  by_cases hj : j < xs.length
  · rw [List.getElem?_eq_getElem hj]; exact h _ (List.getElem_mem hj)
  · rw [List.getElem?_eq_none (by omega)]; simp
def exMem (w : World) (d : List Int) : World := (w.alloc (.cells #[.int .u8 97, .int .u8 98, .int .u8 99] 5 (3, 4))).alloc (.cells (d.map (Value.int .u8)).toArray 5)
theorem exMem_below (w : World) (d : List Int) : Below w.heap.size w (exMem w d) := ((Below.refl _ _).alloc (Nat.le_refl _) _).alloc (by simp) _
theorem exMem_base (w : World) (d : List Int) : Bytes (exMem w d) (some ⟨w.heap.size, 0, none⟩) 3 [97, 98, 99] :=
  (Bytes.lit w _ rfl [97, 98, 99] 5 (3, 4) 3 rfl (by omega) (by decide)).below ((Below.refl _ _).alloc (Nat.le_refl _) _)
theorem exMem_delta (w : World) (d : List Int) (n : Nat) (hn : d.length = n) (hn1 : n ≤ 9223372036854775807) (hd : ∀ x ∈ d, 0 ≤ x ∧ x ≤ 255) : Bytes (exMem w d) (some ⟨w.heap.size + 1, 0, none⟩) n d :=
  Bytes.lit _ _ (by simp) d 5 (0, 0) n hn hn1 hd
theorem apply_ex (w : World) (d out : List Int) (hd : ∀ x ∈ d, 0 ≤ x ∧ x ≤ 255) (hl : d.length = 7) (hout : applyOf [97, 98, 99] d 9 = (0, out)) :
    Calls Try.prog 9 #[.slice (some ⟨w.heap.size, 0, none⟩) 3 3, .slice (some ⟨w.heap.size + 1, 0, none⟩) 7 7, .int .i64 9] (exMem w d) fun e w' => (∃ v, e = .returned (.tuple #[v, .int .i64 0]) ∧ Own w' w.heap.size v out.length out) ∧ Below w.heap.size w w' := by
  refine (apply_any _ 3 3 [97, 98, 99] _ 7 7 d 9 _ (by omega) (fun e => by cases e) (by omega) (exMem_base w d) (by omega) (fun e => by cases e) (by omega) (exMem_delta w d 7 hl (by omega) hd) (by omega)).mono ?_
  rw [hout]
  rintro e w' ⟨⟨v, rfl, hv⟩, hb⟩
  exact ⟨⟨v, rfl, hv.lower (exMem_below w d).size⟩, (exMem_below w d).trans (hb.mono (exMem_below w d).size)⟩
set_option maxRecDepth 100000 in
set_option maxHeartbeats 4000000 in
theorem known_any (w : World) : Calls Try.prog 13 #[] w fun e w' => e = .returned (.bool true) ∧ Below w.heap.size w w' := by
  have hcv := fun (w : World) (C : Array Value) (n c g : Nat) (hg : g = w.heap.size) => Joins.run_convert_bytes_const_at (P := Try.prog) w 22 5 C n c g hg Try.underlying22 Try.underlying5
  go_enter Try.func13, Try.ntmps13
  go_wp2_with fail
  refine (apply_ex w [3, 4, 144, 2, 2, 120, 121] [97, 98, 120, 121] (by decide) rfl known_sum1).mono ?_
  rintro e w2 ⟨⟨v, rfl, hv⟩, hb2⟩
  have HB2 : Hid (Below w.heap.size w w2) := hb2
  obtain ⟨av, cv, rfl, -, -, -⟩ := hv.shape
  have HVB : Hid (Bytes w2 av 4 [97, 98, 120, 121]) := hv.bytes (range_of_mem (by decide))
  clear hv hb2
  go_wp2_with fail
  refine (apply_ex w2 [3, 3, 145, 1, 2, 1, 122] [98, 99, 122] (by decide) rfl known_sum2).mono ?_
  rintro e w3 ⟨⟨v3, rfl, hv3⟩, hb3⟩
  have HB3 : Hid (Below w2.heap.size w2 w3) := hb3
  obtain ⟨av3, cv3, rfl, -, -, -⟩ := hv3.shape
  have ht := text_run w3 av 4 cv _ (HVB.out.below HB3.out)
  have ht2 := text_run w3 av3 3 cv3 _ (hv3.bytes (range_of_mem (by decide)))
  have hs : strOfNums [97, 98, 120, 121] = ⟨#[97, 98, 120, 121]⟩ := by decide +kernel
  have hs2 : strOfNums [98, 99, 122] = ⟨#[98, 99, 122]⟩ := by decide +kernel
  rw [hs] at ht
  rw [hs2] at ht2
  clear hv3 hb3
  go_wp2_with fail
  go_ret
  exact ⟨rfl, HB2.out.trans (HB3.out.mono HB2.out.size)⟩
end Go.Proofs.Ytkpnmagcmpljoaa
