/- What the document's steps say, byte by byte. -/
import Derived.Test.YtkpnmagcmpljoaaApply
namespace Go.Proofs.Ytkpnmagcmpljoaa
open Go.RowKit Plain
set_option linter.unusedVariables false
namespace Plain
/-- What is left of a step's tell. -/
def goStep (base : List Int) (b : Nat) (out : List Int) (r : Nat × List Int × List Int) : Nat × List Int :=
  if r.1 ≠ 0 then (r.1, []) else if b - out.length < r.2.1.length then (4, []) else stepsGo base b (r.2.2.length + 1) r.2.2 (out ++ r.2.1)
theorem stepsGo_step (base : List Int) (b f : Nat) (rest out : List Int) (h : rest ≠ []) (hf : rest.length < f + 1) : stepsGo base b (f + 1) rest out = goStep base b out (stepOf base rest) := by
  unfold goStep
  by_cases he : (stepOf base rest).1 = 0
  · rw [if_neg (by omega)]
    by_cases hb : b - out.length < (stepOf base rest).2.1.length
    · rw [if_pos hb, stepsGo_big _ _ _ _ _ h he hb]
    · rw [if_neg hb, stepsGo_on _ _ _ _ _ h he hb hf]
  · rw [if_pos he, stepsGo_err _ _ _ _ _ h he]
theorem goStep_zero (base : List Int) (b : Nat) (out t : List Int) : goStep base b out (stepOf base ((0 : Int) :: t)) = (4, []) := by
  simp [stepOf, goStep]
theorem goStep_short (base : List Int) (b y : Nat) (out t : List Int) (h1 : y < 128) (h2 : t.length < y) : goStep base b out (stepOf base ((y : Int) :: t)) = (3, []) := by
  simp only [stepOf, Int.toNat_natCast]
  rw [if_neg (by omega), if_pos h2]
  simp [goStep]
theorem goStep_room (base : List Int) (b y : Nat) (out t : List Int) (h0 : y ≠ 0) (h1 : y < 128) (h2 : ¬ t.length < y) (h3 : b - out.length < y) : goStep base b out (stepOf base ((y : Int) :: t)) = (4, []) := by
  simp only [stepOf, Int.toNat_natCast]
  rw [if_neg (by omega), if_neg h2, if_neg h0]
  unfold goStep
  rw [if_neg (by simp), if_pos (by simp only [List.length_take]; omega)]
theorem goStep_lit (base : List Int) (b y : Nat) (out t : List Int) (h0 : y ≠ 0) (h1 : y < 128) (h2 : ¬ t.length < y) (h3 : ¬ b - out.length < y) : goStep base b out (stepOf base ((y : Int) :: t)) = stepsGo base b (t.length - y + 1) (t.drop y) (out ++ t.take y) := by
  simp only [stepOf, Int.toNat_natCast]
  rw [if_neg (by omega), if_neg h2, if_neg h0]
  unfold goStep
  rw [if_neg (by simp), if_neg (by simp only [List.length_take]; omega)]
  simp only [List.length_drop]
theorem goStep_none (base : List Int) (b y : Nat) (out t : List Int) (h1 : ¬ y < 128) (hg : gat y 7 0 t 0 = none) : goStep base b out (stepOf base ((y : Int) :: t)) = (3, []) := by
  simp only [stepOf, Int.toNat_natCast]
  rw [if_pos (by omega)]
  unfold copyOf
  rw [hg]
  simp [goStep]
theorem goStep_out (base : List Int) (b y n : Nat) (out t u : List Int) (h1 : ¬ y < 128) (hg : gat y 7 0 t 0 = some (n, u)) (h2 : base.length < n % 4294967296 + sizeIs n) : goStep base b out (stepOf base ((y : Int) :: t)) = (4, []) := by
  simp only [stepOf, Int.toNat_natCast]
  rw [if_pos (by omega)]
  unfold copyOf
  rw [hg]
  simp only
  rw [if_pos h2]
  simp [goStep]
theorem sub_length (xs : List Int) (o n : Nat) (h : o + n ≤ xs.length) : (sub xs o n).length = n := by
  unfold sub; rw [List.length_take, List.length_drop]; omega
theorem goStep_much (base : List Int) (b y n : Nat) (out t u : List Int) (h1 : ¬ y < 128) (hg : gat y 7 0 t 0 = some (n, u)) (h2 : ¬ base.length < n % 4294967296 + sizeIs n) (h3 : b - out.length < sizeIs n) : goStep base b out (stepOf base ((y : Int) :: t)) = (4, []) := by
  simp only [stepOf, Int.toNat_natCast]
  rw [if_pos (by omega)]
  unfold copyOf
  rw [hg]
  simp only
  rw [if_neg h2]
  unfold goStep
  rw [if_neg (by simp), if_pos (by simp only; rw [sub_length _ _ _ (by omega)]; exact h3)]
theorem goStep_copy (base : List Int) (b y n : Nat) (out t u : List Int) (h1 : ¬ y < 128) (hg : gat y 7 0 t 0 = some (n, u)) (h2 : ¬ base.length < n % 4294967296 + sizeIs n) (h3 : ¬ b - out.length < sizeIs n) :
    goStep base b out (stepOf base ((y : Int) :: t)) = stepsGo base b (u.length + 1) u (out ++ sub base (n % 4294967296) (sizeIs n)) := by
  simp only [stepOf, Int.toNat_natCast]
  rw [if_pos (by omega)]
  unfold copyOf
  rw [hg]
  simp only
  rw [if_neg h2]
  unfold goStep
  rw [if_neg (by simp), if_neg (by simp only; rw [sub_length _ _ _ (by omega)]; exact h3)]
theorem take_next (xs : List Int) (j : Nat) (h : j < xs.length) : xs.take (j + 1) = xs.take j ++ [xs[j]?.getD 0] := by
  rw [List.take_succ_eq_append_getElem h, List.getElem?_eq_getElem h]; rfl
/-- Seven bytes as one number. -/
def Sev (k n : Nat) (s0 s1 s2 s3 s4 s5 s6 : Int) : Prop :=
  (0 ≤ s0 ∧ s0 ≤ 255 ∧ 0 ≤ s1 ∧ s1 ≤ 255 ∧ 0 ≤ s2 ∧ s2 ≤ 255 ∧ 0 ≤ s3 ∧ s3 ≤ 255 ∧ 0 ≤ s4 ∧ s4 ≤ 255 ∧ 0 ≤ s5 ∧ s5 ≤ 255 ∧ 0 ≤ s6 ∧ s6 ≤ 255) ∧
  (k ≤ 0 → s0 = 0) ∧ (k ≤ 1 → s1 = 0) ∧ (k ≤ 2 → s2 = 0) ∧ (k ≤ 3 → s3 = 0) ∧ (k ≤ 4 → s4 = 0) ∧ (k ≤ 5 → s5 = 0) ∧ (k ≤ 6 → s6 = 0) ∧
  (n : Int) = s0 + 256 * s1 + 65536 * s2 + 16777216 * s3 + 4294967296 * s4 + 1099511627776 * s5 + 281474976710656 * s6
theorem Sev.more {k n : Nat} {s0 s1 s2 s3 s4 s5 s6 : Int} (h : Sev k n s0 s1 s2 s3 s4 s5 s6) : Sev (k + 1) n s0 s1 s2 s3 s4 s5 s6 := by
  unfold Sev at *
  omega
end Plain
theorem put7 {w : World} {b : Nat} {t : TypeId} {s0 s1 s2 s3 s4 s5 s6 : Int} (k n y : Nat) (hk : k < 7) (hy : y < 256) (hr : w.heap[b]? = some (.cells #[.int .i64 s0, .int .i64 s1, .int .i64 s2, .int .i64 s3, .int .i64 s4, .int .i64 s5, .int .i64 s6] t (0, 0))) (hs : Sev k n s0 s1 s2 s3 s4 s5 s6) :
    ∃ t0 t1 t2 t3 t4 t5 t6 : Int, (w.setCell ⟨b, k, none⟩ (.int .i64 (y : Int))).heap[b]? = some (.cells #[.int .i64 t0, .int .i64 t1, .int .i64 t2, .int .i64 t3, .int .i64 t4, .int .i64 t5, .int .i64 t6] t (0, 0)) ∧ Sev (k + 1) (n + y * 2 ^ (8 * k)) t0 t1 t2 t3 t4 t5 t6 := by
  have hc : k = 0 ∨ k = 1 ∨ k = 2 ∨ k = 3 ∨ k = 4 ∨ k = 5 ∨ k = 6 := by omega
  rcases hc with rfl | rfl | rfl | rfl | rfl | rfl | rfl
  · exact ⟨y, s1, s2, s3, s4, s5, s6, (heap_setCell_same w b 0 _ _ _ hr).trans rfl, by unfold Sev at *; simp only [Nat.reduceMul, Nat.reducePow]; omega⟩
  · exact ⟨s0, y, s2, s3, s4, s5, s6, (heap_setCell_same w b 1 _ _ _ hr).trans rfl, by unfold Sev at *; simp only [Nat.reduceMul, Nat.reducePow]; omega⟩
  · exact ⟨s0, s1, y, s3, s4, s5, s6, (heap_setCell_same w b 2 _ _ _ hr).trans rfl, by unfold Sev at *; simp only [Nat.reduceMul, Nat.reducePow]; omega⟩
  · exact ⟨s0, s1, s2, y, s4, s5, s6, (heap_setCell_same w b 3 _ _ _ hr).trans rfl, by unfold Sev at *; simp only [Nat.reduceMul, Nat.reducePow]; omega⟩
  · exact ⟨s0, s1, s2, s3, y, s5, s6, (heap_setCell_same w b 4 _ _ _ hr).trans rfl, by unfold Sev at *; simp only [Nat.reduceMul, Nat.reducePow]; omega⟩
  · exact ⟨s0, s1, s2, s3, s4, y, s6, (heap_setCell_same w b 5 _ _ _ hr).trans rfl, by unfold Sev at *; simp only [Nat.reduceMul, Nat.reducePow]; omega⟩
  · exact ⟨s0, s1, s2, s3, s4, s5, y, (heap_setCell_same w b 6 _ _ _ hr).trans rfl, by unfold Sev at *; simp only [Nat.reduceMul, Nat.reducePow]; omega⟩
theorem cell7 {w : World} {b : Nat} {t : TypeId} {s0 s1 s2 s3 s4 s5 s6 : Int} (k : Nat) (hk : k < 7) (hr : w.heap[b]? = some (.cells #[.int .i64 s0, .int .i64 s1, .int .i64 s2, .int .i64 s3, .int .i64 s4, .int .i64 s5, .int .i64 s6] t (0, 0))) : ∃ q : Int, w.cell? ⟨b, k, none⟩ = some (.int .i64 q) := by
  have hc : k = 0 ∨ k = 1 ∨ k = 2 ∨ k = 3 ∨ k = 4 ∨ k = 5 ∨ k = 6 := by omega
  rcases hc with rfl | rfl | rfl | rfl | rfl | rfl | rfl
  · exact ⟨s0, (cell_of_row _ _ 0 _ _ hr).trans rfl⟩
  · exact ⟨s1, (cell_of_row _ _ 1 _ _ hr).trans rfl⟩
  · exact ⟨s2, (cell_of_row _ _ 2 _ _ hr).trans rfl⟩
  · exact ⟨s3, (cell_of_row _ _ 3 _ _ hr).trans rfl⟩
  · exact ⟨s4, (cell_of_row _ _ 4 _ _ hr).trans rfl⟩
  · exact ⟨s5, (cell_of_row _ _ 5 _ _ hr).trans rfl⟩
  · exact ⟨s6, (cell_of_row _ _ 6 _ _ hr).trans rfl⟩
theorem Own.lower {w : World} {base base' : Nat} {v : Value} {n : Nat} {xs : List Int} (h : Own w base v n xs) (hb : base' ≤ base) : Own w base' v n xs := by
  obtain ⟨h1, h2 | ⟨g, cap, cur, h3, h4, h5⟩⟩ := h
  · exact ⟨h1, .inl h2⟩
  · exact ⟨h1, .inr ⟨g, cap, cur, h3, Nat.le_trans hb h4, h5⟩⟩
theorem own_len {w : World} {base : Nat} {a : Option Addr} {n c : Nat} {xs : List Int} (h : Own w base (.slice a n c) n xs) : xs.length = n := by
  have := h.1
  rw [List.length_map] at this
  omega
end Go.Proofs.Ytkpnmagcmpljoaa
