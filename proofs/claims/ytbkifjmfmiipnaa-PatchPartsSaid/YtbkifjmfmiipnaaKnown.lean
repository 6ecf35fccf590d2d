/- The chapter's example, and the first bytes. -/
import Derived.Test.YtbkifjmfmiipnaaApply
import Derived.Test.YtbkifjmfmiipnaaPrint
namespace Go.Proofs.Ytbkifjmfmiipnaa
open Go.RowKit Plain
set_option linter.unusedVariables false
theorem few_any (a : Option Addr) (n c : Nat) (xs : List Int) (w : World) (hnc : n ≤ c) (hc : c ≤ 9223372036854775807) :
    Calls Try.prog 8 #[.slice a n c] w fun e w' => e = .returned (.slice a (min n 1000) c) ∧ w' = w := by
  have hm : min n 1000 ≤ c := by omega
  have hm2 : (min (n : Int) 1000).toNat = min n 1000 := by omega
  go_enter Try.func8, Try.ntmps8
  go_wp2_with fail
  · go_ret
    rw [show min n 1000 = 1000 by omega]
    exact ⟨rfl, rfl⟩
  · go_ret
    rw [show min n 1000 = n by omega]
    exact ⟨rfl, rfl⟩
theorem known_sum : applyOf [97, 98, 99, 100] (printOf [⟨1, 2, [120, 121]⟩, ⟨4, 4, [122]⟩]) 6 = (0, [97, 120, 121, 99, 100, 122]) := by decide +kernel
theorem known_sum5 : applyOf [97, 98, 99, 100] (printOf [⟨1, 2, [120, 121]⟩, ⟨4, 4, [122]⟩]) 5 = (2, []) := by decide +kernel
theorem cell_of_rowf (W : World) (B k : Nat) (cs : Array Value) (t : TypeId) (fz : Nat × Nat) (h : W.heap[B]? = some (.cells cs t fz)) : W.cell? ⟨B, k, none⟩ = cs[k]? := by simp [World.cell?, h]
def hkMem (w : World) : World := ((w.alloc (.cells #[.int .u8 120, .int .u8 121] 5 (2, 3))).alloc (.cells #[.int .u8 122] 5 (1, 2))).alloc (.cells #[.int .i64 1, .int .i64 2, .slice (some ⟨w.heap.size, 0, none⟩) 2 2, .int .i64 4, .int .i64 4, .slice (some ⟨w.heap.size + 1, 0, none⟩) 1 1] 26)
theorem hkMem_below (w : World) : Below w.heap.size w (hkMem w) := (((Below.refl _ _).alloc (Nat.le_refl _) _).alloc (by simp) _).alloc (by simp; omega) _
theorem print_known (w : World) :
    Calls Try.prog 9 #[.slice (some ⟨w.heap.size + 1 + 1, 0, none⟩) 2 2] (hkMem w) fun e w' => (∃ a c, e = .returned (.slice a 27 c) ∧ Own w' w.heap.size (.slice a 27 c) 27 (printOf [⟨1, 2, [120, 121]⟩, ⟨4, 4, [122]⟩])) ∧ Below w.heap.size w w' := by
  have h3 : (hkMem w).heap[w.heap.size]? = some (.cells #[.int .u8 120, .int .u8 121] 5 (2, 3)) ∧ (hkMem w).heap[w.heap.size + 1]? = some (.cells #[.int .u8 122] 5 (1, 2)) ∧ (hkMem w).heap[w.heap.size + 1 + 1]? = some (.cells #[.int .i64 1, .int .i64 2, .slice (some ⟨w.heap.size, 0, none⟩) 2 2, .int .i64 4, .int .i64 4, .slice (some ⟨w.heap.size + 1, 0, none⟩) 1 1] 26 (0, 0)) := by
    unfold hkMem
    refine ⟨?_, ?_, ?_⟩
    · rw [Below.heap_alloc _ _ _ (by simp; omega), Below.heap_alloc _ _ _ (by simp), heap_alloc_new]
    · rw [Below.heap_alloc _ _ _ (by simp)]
      simpa using heap_alloc_new (w.alloc (.cells #[.int .u8 120, .int .u8 121] 5 (2, 3))) (.cells #[.int .u8 122] 5 (1, 2))
    · simpa using heap_alloc_new ((w.alloc (.cells #[.int .u8 120, .int .u8 121] 5 (2, 3))).alloc (.cells #[.int .u8 122] 5 (1, 2))) (.cells #[.int .i64 1, .int .i64 2, .slice (some ⟨w.heap.size, 0, none⟩) 2 2, .int .i64 4, .int .i64 4, .slice (some ⟨w.heap.size + 1, 0, none⟩) 1 1] 26)
  obtain ⟨h0, h1, h2⟩ := h3
  have b := hkMem_below w
  have hsz : (hkMem w).heap.size = w.heap.size + 1 + 1 + 1 := by unfold hkMem; simp
  generalize hkMem w = W at *
  have row : ∀ (g : Nat) (xs : List Int) (fz : Nat × Nat), W.heap[g]? = some (.cells (xs.map (Value.int .u8)).toArray 5 fz) → (∀ x ∈ xs, 0 ≤ x ∧ x ≤ 255) → xs.length ≤ 9223372036854775807 → Bytes W (some ⟨g, 0, none⟩) xs.length xs := fun g xs fz h hx hl =>
    ⟨rfl, hl, range_of_mem hx, .inr ⟨g, 0, rfl, fun j hj => by rw [cell_of_rowf W g (0 + j) _ _ _ h]; simp [hj]⟩⟩
  have P : HunksAt W (w.heap.size + 1 + 1) 0 [⟨1, 2, some ⟨w.heap.size, 0, none⟩, 2, [120, 121]⟩, ⟨4, 4, some ⟨w.heap.size + 1, 0, none⟩, 1, [122]⟩] := by
    intro j p hp
    match j, hp with
    | 0, hp =>
      simp at hp; subst hp
      exact ⟨by rw [cell_of_rowf W _ _ _ _ _ h2]; rfl, by rw [cell_of_rowf W _ _ _ _ _ h2]; rfl, by rw [cell_of_rowf W _ _ _ _ _ h2]; rfl, by simp, by simp, by simp, row w.heap.size [120, 121] (2, 3) h0 (by decide) (by decide)⟩
    | 1, hp =>
      simp at hp; subst hp
      exact ⟨by rw [cell_of_rowf W _ _ _ _ _ h2]; rfl, by rw [cell_of_rowf W _ _ _ _ _ h2]; rfl, by rw [cell_of_rowf W _ _ _ _ _ h2]; rfl, by simp, by simp, by simp, row (w.heap.size + 1) [122] (1, 2) h1 (by decide) (by decide)⟩
    | j + 2, hp => simp at hp
  refine (print_any _ 0 2 _ W (by simp) P (by omega)).mono ?_
  rintro e w' ⟨⟨a, n, c, rfl, ho⟩, hb⟩
  have hn : 27 = n := by have := ho.1; rw [List.length_map, Nat.mul_one] at this; exact (show 27 = _ from rfl).trans this
  subst hn
  exact ⟨⟨a, c, rfl, ho.lower b.size⟩, b.trans (hb.mono b.size)⟩
set_option maxRecDepth 100000 in
set_option maxHeartbeats 4000000 in
theorem known_any (w : World) : Calls Try.prog 12 #[] w fun e w' => e = .returned (.bool true) ∧ Below w.heap.size w w' := by
  have hcv := fun (w : World) (C : Array Value) (n c g : Nat) (hg : g = w.heap.size) => Joins.run_convert_bytes_const_at (P := Try.prog) w 22 5 C n c g hg Try.underlying22 Try.underlying5
  go_enter Try.func12, Try.ntmps12
  go_wp2_with fail
  refine (print_known w).mono ?_
  rintro e w1 ⟨⟨a, c, rfl, ho⟩, hb1⟩
  have HB1 : Hid (Below w.heap.size w w1) := hb1
  have HNA : Hid (a = none → c = 0) := nil_of_own ho
  have hpc : 27 ≤ c := by obtain ⟨a', c', e, h1, -⟩ := ho.shape; simp only [Value.slice.injEq, true_and] at e; omega
  have HP : Hid (Bytes w1 a 27 (printOf [⟨1, 2, [120, 121]⟩, ⟨4, 4, [122]⟩])) := ho.bytes (range_of_mem (by decide))
  clear ho hb1
  go_wp2_with fail
  have ba : ∀ W : World, Below W.heap.size W (W.alloc (.cells #[.int .u8 97, .int .u8 98, .int .u8 99, .int .u8 100] 5 (4, 5))) := fun W => (Below.refl _ _).alloc (Nat.le_refl _) _
  have la : ∀ W : World, Bytes (W.alloc (.cells #[.int .u8 97, .int .u8 98, .int .u8 99, .int .u8 100] 5 (4, 5))) (some ⟨W.heap.size, 0, none⟩) 4 [97, 98, 99, 100] := fun W => Bytes.lit W _ rfl [97, 98, 99, 100] 5 (4, 5) 4 rfl (by omega) (by decide)
  have HBA : Hid (∀ W : World, Below W.heap.size W (W.alloc (.cells #[.int .u8 97, .int .u8 98, .int .u8 99, .int .u8 100] 5 (4, 5)))) := ba
  have HLA : Hid (∀ W : World, Bytes (W.alloc (.cells #[.int .u8 97, .int .u8 98, .int .u8 99, .int .u8 100] 5 (4, 5))) (some ⟨W.heap.size, 0, none⟩) 4 [97, 98, 99, 100]) := la
  clear ba la
  have k6 := known_sum
  have k5 := known_sum5
  refine (apply_any _ 4 4 [97, 98, 99, 100] a 27 c _ 6 _ (by omega) (fun e => by cases e) (by omega) (HLA.out w1) hpc HNA.out (by omega) (HP.out.below (HBA.out w1))).mono ?_
  rw [k6]
  rintro e w2 ⟨⟨v, rfl, hv⟩, hb2⟩
  have HB2 : Hid (Below w.heap.size w w2) := HB1.out.trans (((HBA.out w1).trans (hb2.mono (HBA.out w1).size)).mono HB1.out.size)
  obtain ⟨av, cv, rfl, -, -, -⟩ := hv.shape
  have hvb : Bytes w2 av 6 [97, 120, 121, 99, 100, 122] := hv.bytes (range_of_mem (by decide))
  have HP2 : Hid (Bytes w2 a 27 (printOf [⟨1, 2, [120, 121]⟩, ⟨4, 4, [122]⟩])) := HP.out.below ((HBA.out w1).trans (hb2.mono (HBA.out w1).size))
  have HVB : Hid (Bytes w2 av 6 [97, 120, 121, 99, 100, 122]) := hvb
  clear hv hvb hb2 k6
  go_wp2_with fail
  refine (apply_any _ 4 4 [97, 98, 99, 100] a 27 c _ 5 _ (by omega) (fun e => by cases e) (by omega) (HLA.out w2) hpc HNA.out (by omega) (HP2.out.below (HBA.out w2))).mono ?_
  rw [k5]
  rintro e w3 ⟨⟨v3, rfl, hv3⟩, hb3⟩
  have HB3 : Hid (Below w2.heap.size w2 w3) := (HBA.out w2).trans (hb3.mono (HBA.out w2).size)
  have ht := text_run w3 av 6 cv _ (HVB.out.below HB3.out)
  have hs : strOfNums [97, 120, 121, 99, 100, 122] = ⟨#[97, 120, 121, 99, 100, 122]⟩ := by decide +kernel
  rw [hs] at ht
  clear hv3 hb3 k5
  go_wp2_with fail
  go_ret
  exact ⟨rfl, HB2.out.trans (HB3.out.mono HB2.out.size)⟩
end Go.Proofs.Ytbkifjmfmiipnaa
