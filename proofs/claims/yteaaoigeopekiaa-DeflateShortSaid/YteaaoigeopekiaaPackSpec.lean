/- Packing, plainly; the writer's first calls, its last one. -/
import Derived.Test.YteaaoigeopekiaaFind
import Derived.Test.YteaaoigeopekiaaPackTwo
namespace Go.Proofs.Yteaaoigeopekiaa
open Go.RowKit Go.WideMaps Go.Maps Plain
set_option linter.unusedVariables false
/-- What one step at place k puts, and how many bytes it tells. -/
def stepL (bs : List Int) (k : Nat) : Nat := if (findN bs k).1 = 0 then 1 else (findN bs k).1
def stepV (bs : List Int) (k : Nat) (v : Nat × Nat) : Nat × Nat := if (findN bs k).1 = 0 then putS (bs[k]?.getD 0).toNat v else putDist (findN bs k).2 (putLen (findN bs k).1 v)
def packGo (bs : List Int) : Nat → Nat → Nat × Nat → Nat × Nat
  | 0, _, v => v
  | f + 1, k, v => if bs.length ≤ k then v else packGo bs f (k + stepL bs k) (stepV bs k v)
def packV (bs : List Int) : Nat × Nat := putS 256 (packGo bs bs.length 0 (3, 3))
/-- The bytes of one block of the fixed codes. -/
def packedN (bs : List Int) : List Int := bytesN (packV bs).1 (((packV bs).2 + 7) / 8)
theorem stepL_pos (bs : List Int) (k : Nat) (hk : k < bs.length) : 1 ≤ stepL bs k ∧ k + stepL bs k ≤ bs.length := by
  unfold stepL
  split
  · exact ⟨Nat.le_refl _, hk⟩
  · rename_i h
    have := findN_ok (bs := bs) (k := k) (l := (findN bs k).1) (d := (findN bs k).2) rfl h
    exact ⟨by omega, this.2.2.1⟩
theorem packGo_same (bs : List Int) : ∀ f g k v, bs.length - k ≤ f → bs.length - k ≤ g → packGo bs f k v = packGo bs g k v
  | 0, 0, k, v, _, _ => rfl
  | 0, g + 1, k, v, h, _ => by rw [packGo, packGo, if_pos (by omega)]
  | f + 1, 0, k, v, _, h => by rw [packGo, packGo, if_pos (by omega)]
  | f + 1, g + 1, k, v, h, h' => by
    rw [packGo, packGo]
    split
    · rfl
    · rename_i hk
      have := stepL_pos bs k (by omega)
      exact packGo_same bs f g _ _ (by omega) (by omega)
theorem packGo_step (bs : List Int) (k : Nat) (v : Nat × Nat) (hk : k < bs.length) : packGo bs (bs.length - k) k v = packGo bs (bs.length - (k + stepL bs k)) (k + stepL bs k) (stepV bs k v) := by
  have := stepL_pos bs k hk
  rw [show bs.length - k = (bs.length - k - 1) + 1 by omega, packGo, if_neg (by omega)]
  exact packGo_same bs _ _ _ _ (by omega) (by omega)
theorem findN_two (bs : List Int) (k : Nat) : (findN bs k).2 ≤ k := by
  unfold findN
  split
  · exact Nat.zero_le _
  · cases lastGo bs k k with
    | none => exact Nat.zero_le _
    | some p => exact Nat.sub_le _ _
theorem fixC_le (s : Nat) : (fixC s).2 ≤ 9 := by unfold fixC; repeat (first | split | omega)
theorem putS_two (s : Nat) (v : Nat × Nat) : (putS s v).2 ≤ v.2 + 9 := by have := fixC_le s; show v.2 + (fixC s).2 ≤ _; omega
theorem putLen_two (n : Nat) (v : Nat × Nat) (hn : n ≤ 258) : (putLen n v).2 ≤ v.2 + 14 := by
  unfold putLen
  split
  · have := putS_two 285 v; omega
  · split
    · have := putS_two (254 + n) v; omega
    · have h1 : bl (n - 3) ≤ 8 := by
        unfold bl
        split
        · omega
        · rename_i h0
          have := (Nat.log2_lt h0 (k := 8)).2 (by omega)
          omega
      have h2 := putS_two (261 + 4 * (bl (n - 3) - 3) + (n - 3) / 2 ^ (bl (n - 3) - 3) % 4) v
      show (putS _ v).2 + (bl (n - 3) - 3) ≤ _
      omega
theorem putDist_two (d : Nat) (v : Nat × Nat) (hd : d ≤ 32768) : (putDist d v).2 ≤ v.2 + 19 := by
  unfold putDist
  split
  · show v.2 + 5 ≤ _; omega
  · have h1 : bl (d - 1) ≤ 16 := bl_le (d - 1) (by omega)
    show v.2 + 5 + (bl (d - 1) - 2) ≤ _
    omega
theorem stepV_two (bs : List Int) (k : Nat) (v : Nat × Nat) (hd : (findN bs k).2 ≤ 32768) : (stepV bs k v).2 ≤ v.2 + 11 * stepL bs k := by
  unfold stepV stepL
  by_cases h : (findN bs k).1 = 0
  · rw [if_pos h, if_pos h]
    have := putS_two (bs[k]?.getD 0).toNat v
    omega
  · rw [if_neg h, if_neg h]
    have hf := findN_ok (bs := bs) (k := k) (l := (findN bs k).1) (d := (findN bs k).2) rfl h
    have h1 := putLen_two (findN bs k).1 v hf.2.1
    have h2 := putDist_two (findN bs k).2 (putLen (findN bs k).1 v) hd
    have h3 := hf.1
    omega
/-! ### The writer's first calls -/
def WAt0 (w : World) (B : Nat) (h n : Int) : Prop := w.heap[B]? = some (.cells #[.slice none 0 0, .int .u64 h, .int .i64 n] 57 (0, 0))
theorem WAt0.set12 {w : World} {B : Nat} {h n : Int} (H : WAt0 w B h n) (h' n' : Int) : WAt0 (((w.setCell ⟨B, 1, none⟩ (.int .u64 h')).setCell ⟨B, 2, none⟩ (.int .i64 n')).drew) B h' n' := by
  show ((w.setCell ⟨B, 1, none⟩ (.int .u64 h')).setCell ⟨B, 2, none⟩ (.int .i64 n')).heap[B]? = _
  rw [heap_setCell_same _ B 2 _ 57 _ (heap_setCell_same w B 1 _ 57 _ H)]
  rfl
theorem WAt0.below {w w' : World} {B : Nat} {h n : Int} (H : WAt0 w B h n) (hb : Below w.heap.size w w') : WAt0 w' B h n := (hb.block B (Array.getElem?_eq_some_iff.1 H).1).trans H
set_option maxHeartbeats 1000000 in
theorem number_1a (B : Nat) (w : World) (H : WAt0 w B 0 0) :
    Calls Try.prog 29 #[.pointer (some ⟨B, 0, none⟩), .int .i64 1, .int .i64 1] w fun e w' => e = .returned (.tuple #[]) ∧ WAt0 w' B 1 1 ∧ Below B w w' := by
  have HW : Hid (WAt0 w B 0 0) := H
  obtain ⟨c0, c1, c2, f0, f1, f2⟩ := cells3 H
  clear H
  go_enter Try.func29, Try.ntmps29
  go_wp2_with fail
  go_region
  go_wp2_with fail
  refine wp_loop_rounds 1 ?_
  rw [rounds_succ]
  go_wp2_with fail
  go_end0
  exact ⟨rfl, HW.out.set12 _ _, (((Below.refl B w).setCell (Nat.le_refl _) _).setCell (Nat.le_refl _) _).drew⟩
set_option maxHeartbeats 1000000 in
theorem number_2a (B : Nat) (w : World) (H : WAt0 w B 1 1) :
    Calls Try.prog 29 #[.pointer (some ⟨B, 0, none⟩), .int .i64 1, .int .i64 2] w fun e w' => e = .returned (.tuple #[]) ∧ WAt0 w' B 3 3 ∧ Below B w w' := by
  have HW : Hid (WAt0 w B 1 1) := H
  obtain ⟨c0, c1, c2, f0, f1, f2⟩ := cells3 H
  clear H
  go_enter Try.func29, Try.ntmps29
  go_wp2_with fail
  go_region
  go_wp2_with fail
  refine wp_loop_rounds 1 ?_
  rw [rounds_succ]
  go_wp2_with fail
  go_end0
  exact ⟨rfl, HW.out.set12 _ _, (((Below.refl B w).setCell (Nat.le_refl _) _).setCell (Nat.le_refl _) _).drew⟩
theorem WP.start {w : World} {B base : Nat} (H : WAt0 w B 3 3) (hB : B < base) (hs : base ≤ w.heap.size) : WP w base B (3, 3) :=
  ⟨by decide, .slice none 0 0, H, ⟨rfl, .inl ⟨rfl, rfl⟩⟩, hB, hs⟩
theorem memory_new (w : World) (bs : List Int) : Calls Try.prog 30 #[] w fun e w' => (∃ b, e = .returned (.agg #[.map (some b)]) ∧ MetAt w' b bs 0 ∧ w.heap.size ≤ b) ∧ Below w.heap.size w w' := by
  have hmm := @run_makeMap Try.prog
  go_enter Try.func30, Try.ntmps30
  go_wp2_with fail
  refine bodyPost_ret (v := .agg #[.map (some (w.heap.size + 1))]) (by simp [results, Try.results30, go_sem]) rfl ⟨⟨w.heap.size + 1, rfl, ?_, by omega⟩, ((Below.refl _ _).alloc (Nat.le_refl _) _).alloc (by simp) _⟩
  have h1 := MetAt.made (w.alloc (.cells #[.map (some (w.heap.size + 1))] 61)) bs
  have h2 : (w.alloc (.cells #[.map (some (w.heap.size + 1))] 61)).heap.size = w.heap.size + 1 := by simp
  rw [h2] at h1
  exact h1
/-! ### The writer's last call -/
set_option maxHeartbeats 2000000 in
theorem wbytes_any (base B : Nat) (v : Nat × Nat) (w : World) (H : WP w base B v) (hT : v.2 ≤ 900000) :
    Calls Try.prog 36 #[.pointer (some ⟨B, 0, none⟩)] w fun e w' => (∃ va vc, e = .returned (.slice va ((v.2 + 7) / 8) vc) ∧ RowB w' va ((v.2 + 7) / 8) vc (bytesN v.1 ((v.2 + 7) / 8))) ∧ FrW B base w w' := by
  obtain ⟨V, T⟩ := v
  simp only at hT ⊢
  have HW : Hid (Wrt w base B V T) := H
  obtain ⟨hV, vv, hb, hown, h1, h2⟩ := H
  obtain ⟨c0, c1, c2, f0, f1, f2⟩ := cells3 hb
  obtain ⟨r, hr⟩ : ∃ r, T % 8 = r := ⟨_, rfl⟩
  rw [hr] at c2
  by_cases h0 : r = 0
  · subst h0
    have hk : (T + 7) / 8 = T / 8 := by omega
    rw [hk]
    have hl := bytesN_len V (T / 8)
    have hx := range_of_mem0 (bytesN_range V (T / 8))
    rw [hl] at hown
    obtain ⟨va, vc, rfl, s1, s2, s3⟩ := hown.shape
    have HR : Hid (RowB w va (T / 8) vc (bytesN V (T / 8))) := ⟨s1, s3, s2, hown.bytes hx⟩
    clear hb hown hx hl
    go_enter Try.func36, Try.ntmps36
    go_wp2_with fail
    go_ret
    exact ⟨⟨va, vc, rfl, HR.out⟩, FrW.refl _ _ _⟩
  · have h0i : (0 : Int) < (r : Int) := by omega
    have h0n : 0 < r := by omega
    obtain ⟨s, hs⟩ : ∃ s, 8 - r = s := ⟨_, rfl⟩
    have hsi : 8 - (r : Int) = (s : Int) := by omega
    have HC := Lib.hid (wnumber_any base B V T 0 s w HW.out (Nat.two_pow_pos _) (by omega) (by omega))
    have hk : (T + 7) / 8 = (T + s) / 8 := by omega
    have hTs : (T + s) % 8 = 0 := by omega
    rw [hk]
    clear hb hown
    go_enter Try.func36, Try.ntmps36
    go_wp2_with fail
    refine HC.out.mono ?_
    rintro e w2 ⟨rfl, hw2, hf2⟩
    rw [Nat.zero_mul, Nat.add_zero] at hw2
    obtain ⟨-, v2, hb2, hown2, -, -⟩ := hw2
    obtain ⟨d0, d1, d2, e0, e1, e2⟩ := cells3 hb2
    have hl := bytesN_len V ((T + s) / 8)
    have hx := range_of_mem0 (bytesN_range V ((T + s) / 8))
    rw [hl] at hown2
    obtain ⟨va, vc, rfl, s1, s2, s3⟩ := hown2.shape
    have HR : Hid (RowB w2 va ((T + s) / 8) vc (bytesN V ((T + s) / 8))) := ⟨s1, s3, s2, hown2.bytes hx⟩
    have HF := Lib.hid hf2
    clear hb2 hown2 hx hl hf2 c0 c1 c2 f0 f1 f2 HC HW
    go_wp2_with fail
    go_ret
    exact ⟨⟨va, vc, rfl, HR.out⟩, HF.out⟩
end Go.Proofs.Yteaaoigeopekiaa
