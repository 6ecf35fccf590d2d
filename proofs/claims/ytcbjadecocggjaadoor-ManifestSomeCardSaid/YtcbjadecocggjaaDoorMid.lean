/- A slice of bytes of the call's own, anywhere in its block; append of bytes and of texts. -/
import Derived.Test.YtcbjadecocggjaaDoorBytes
import Derived.Deep.MidRow
import Derived.Deep.Upon
namespace Go.Proofs.YtcbjadecocggjaaDoor
open Go.RowKit
set_option linter.unusedVariables false
def U8 (xs : List Int) : List Value := xs.map (Value.int .u8)
theorem U8_append (xs ys : List Int) : U8 (xs ++ ys) = U8 xs ++ U8 ys := List.map_append ..
theorem U8_length (xs : List Int) : (U8 xs).length = xs.length := List.length_map ..
theorem U8_one (xs : List Int) : ∀ u ∈ U8 xs, u.oneCell' = true := fun u hu => by
  obtain ⟨y, -, rfl⟩ := List.mem_map.1 hu; rfl
/-- A slice of bytes in the call's own memory, anywhere in its block. -/
def Mid (w : World) (base : Nat) (v : Value) (n : Nat) (xs : List Int) : Prop :=
  xs.length = n ∧ ((v = .slice none 0 0 ∧ n = 0) ∨
    ∃ g o cap, v = .slice (some ⟨g, o, none⟩) n cap ∧ base ≤ g ∧ g < w.heap.size ∧ n ≤ cap ∧ cap ≤ 9223372036854775807 ∧ w.rangeAt g o (U8 xs) ∧ w.there g o cap)
theorem Mid.nil (w : World) (base : Nat) : Mid w base (.slice none 0 0) 0 [] := ⟨rfl, .inl ⟨rfl, rfl⟩⟩
theorem rangeAt_block {w w' : World} {g o : Nat} {cs : List Value} (h : w.rangeAt g o cs) (hb : w'.heap[g]? = w.heap[g]?) : w'.rangeAt g o cs := fun j v hv => by
  rw [World.cell?_of_block (w := w) (w' := w') (a := ⟨g, o + j, none⟩) hb]; exact h j v hv
theorem there_block {w w' : World} {g o n : Nat} (h : w.there g o n) (hb : w'.heap[g]? = w.heap[g]?) : w'.there g o n := fun j hj => by
  rw [World.cell?_of_block (w := w) (w' := w') (a := ⟨g, o + j, none⟩) hb, World.frozen?_of_block (w := w) (w' := w') (a := ⟨g, o + j, none⟩) hb]; exact h j hj
theorem Mid.kept {w w' : World} {base : Nat} {v : Value} {n : Nat} {xs : List Int} {row : Option Nat} (h : Mid w base v n xs) (hg : w.grownBy w' row) (hne : v.ownBlock = none ∨ v.ownBlock ≠ row) : Mid w' base v n xs := by
  obtain ⟨h1, h2 | ⟨g, o, cap, rfl, hb, hlt, hn, hc, hr, ht⟩⟩ := h
  · exact ⟨h1, .inl h2⟩
  · have hbl : w'.heap[g]? = w.heap[g]? := hg.block g hlt (by
      rcases hne with h | h
      · cases h
      · exact h)
    exact ⟨h1, .inr ⟨g, o, cap, rfl, hb, Nat.lt_of_lt_of_le hlt hg.size, hn, hc, rangeAt_block hr hbl, there_block ht hbl⟩⟩
theorem Mid.below {w w' : World} {base : Nat} {v : Value} {n : Nat} {xs : List Int} (h : Mid w base v n xs) (hb : Below w.heap.size w w') : Mid w' base v n xs :=
  h.kept (row := none) ⟨hb.os, hb.tape, hb.output, hb.size, fun k hk _ => hb.block k hk⟩ (by
    cases hv : v.ownBlock with
    | none => exact .inl rfl
    | some k => exact .inr (by simp))
theorem Mid.lower {w : World} {base base' : Nat} {v : Value} {n : Nat} {xs : List Int} (h : Mid w base v n xs) (hb : base' ≤ base) : Mid w base' v n xs := by
  obtain ⟨h1, h2 | ⟨g, o, cap, h3, h4, h5⟩⟩ := h
  · exact ⟨h1, .inl h2⟩
  · exact ⟨h1, .inr ⟨g, o, cap, h3, Nat.le_trans hb h4, h5⟩⟩
theorem Mid.shape {w : World} {base : Nat} {v : Value} {n : Nat} {xs : List Int} (h : Mid w base v n xs) : ∃ a c, v = .slice a n c ∧ n ≤ c ∧ (a = none → c = 0) ∧ c ≤ 9223372036854775807 := by
  obtain ⟨h1, ⟨rfl, rfl⟩ | ⟨g, o, cap, rfl, hb, hlt, hn, hc, hr, ht⟩⟩ := h
  · exact ⟨none, 0, rfl, Nat.le_refl _, fun _ => rfl, by omega⟩
  · exact ⟨_, cap, rfl, hn, fun h => (by cases h), hc⟩
theorem Mid.bytes {w : World} {base : Nat} {a : Option Addr} {n c : Nat} {xs : List Int} (h : Mid w base (.slice a n c) n xs) (hx : ∀ j : Nat, 0 ≤ xs[j]?.getD 0 ∧ xs[j]?.getD 0 ≤ 255) : Bytes w a n xs := by
  obtain ⟨h1, ⟨h2, rfl⟩ | ⟨g, o, cap, h2, hb, hlt, hn, hc, hr, ht⟩⟩ := h
  · exact ⟨h1, by omega, hx, .inl rfl⟩
  · simp only [Value.slice.injEq] at h2
    obtain ⟨rfl, -, rfl⟩ := h2
    refine ⟨h1, by omega, hx, .inr ⟨g, o, rfl, fun j hj => hr j _ ?_⟩⟩
    unfold U8
    rw [List.getElem?_map, List.getElem?_eq_getElem (by omega)]
    rfl
theorem Mid.off {w : World} {base : Nat} {v : Value} {n : Nat} {xs : List Int} (h : Mid w base v n xs) (hbase : base ≤ w.heap.size) {w' : World} (hg : w.grownBy w' v.ownBlock) : Below base w w' := by
  refine (Below.refl base w).grown hg hbase fun k hk => ?_
  obtain ⟨h1, ⟨rfl, rfl⟩ | ⟨g, o, cap, rfl, hb, -⟩⟩ := h
  · cases hk
  · simp only [Value.ownBlock, Option.some.injEq] at hk; omega
theorem grownBy_setCells (w : World) (g o : Nat) (vs : List Value) : w.grownBy (w.setCells g o vs) (some g) := by
  induction vs generalizing o w with
  | nil => exact ⟨rfl, rfl, rfl, Nat.le_refl _, fun _ _ _ => rfl⟩
  | cons v r ih =>
    have h1 : w.grownBy (w.setCell ⟨g, o, none⟩ v) (some g) := by
      refine ⟨rfl, rfl, rfl, ?_, fun k hk hne => ?_⟩
      · rw [World.size_setCell]; exact Nat.le_refl _
      · exact Below.heap_setCell w _ v k (fun e => hne (by rw [e]))
    have h2 := ih (w.setCell ⟨g, o, none⟩ v) (o + 1)
    exact ⟨h2.os.trans h1.os, h2.tape.trans h1.tape, h2.output.trans h1.output, Nat.le_trans h1.size h2.size, fun k hk hne => (h2.block k (Nat.lt_of_lt_of_le hk h1.size) hne).trans (h1.block k hk hne)⟩
theorem rangeAt_both {w : World} {g o : Nat} {us vs : List Value} (h1 : w.rangeAt g o us) (h2 : w.rangeAt g (o + us.length) vs) : w.rangeAt g o (us ++ vs) := fun j v hv => by
  by_cases hj : j < us.length
  · rw [List.getElem?_append_left hj] at hv; exact h1 j v hv
  · rw [List.getElem?_append_right (by omega)] at hv
    have := h2 (j - us.length) v hv
    rwa [show o + us.length + (j - us.length) = o + j by omega] at this
/-- append(v, x...), v the call's own. -/
theorem mid_append (w : World) (ty tx : TypeId) (base : Nat) (v : Value) (n : Nat) (xs : List Int) (h : Mid w base v n xs) (x : Value) (m : Nat) (ys : List Int) (hs : Src Tryd.prog 1 tx x m (U8 ys) w)
    (hsum : n + m ≤ 70368744177664) (hbase : base ≤ w.heap.size) :
    ∃ v' w', (Builtin.append_ #[38, tx] ty #[v, x]).run Tryd.prog w = .ok v' w' ∧ Mid w' base v' (n + m) (xs ++ ys) ∧ w.grownBy w' v.ownBlock ∧ (v'.ownBlock = v.ownBlock ∨ v'.ownBlock = some w.heap.size) := by
  obtain ⟨i, hi, hz0, hz1, hz2⟩ := info_parts u8info
  have hm : ys.length = m := by have := hs.newsLen; rw [U8_length] at this; omega
  have grow : ∀ (a : Option Addr) (cap : Nat), v = .slice a n cap → cap < n + m → (Builtin.firstCells 1 n (.slice a n cap)).run Tryd.prog w.drew = .ok (U8 xs).toArray w.drew →
      ∃ v' w', (Builtin.append_ #[38, tx] ty #[v, x]).run Tryd.prog w = .ok v' w' ∧ Mid w' base v' (n + m) (xs ++ ys) ∧ w.grownBy w' v.ownBlock ∧ (v'.ownBlock = v.ownBlock ∨ v'.ownBlock = some w.heap.size) := by
    intro a cap hv hlt hold
    subst hv
    have hxl : xs.length = n := h.1
    have hr := run_append_grow_src (P := Tryd.prog) w 38 tx ty 5 i (.int .u8 0) Tryd.underlying38 hi hz0 a n cap (U8 xs) (by rw [hz1]; exact hold) x m (U8 ys) (by rw [hz1]; exact hs) hlt (by omega) (by rw [hz2]; exact growslice_fits hlt (by omega))
    have hge := grownCap_ge w (n + m) cap 5
    have hcm : grownCap w (n + m) cap 5 ≤ maxLen := grownCap_le_maxLen w (n + m) cap 5 (by unfold maxLen; omega)
    have hcm2 : grownCap w (n + m) cap 5 ≤ 9223372036854775807 := by unfold maxLen at hcm; omega
    generalize grownCap w (n + m) cap 5 = gc at *
    have hnew := heap_alloc_new w.drew (.cells ((U8 xs ++ U8 ys).toArray ++ Builtin.zeroCells (Value.int .u8 0).cells (gc - (n + m))) 5)
    have hz1' : (Value.int IntKind.u8 0).cells.size = 1 := rfl
    have hsz : ((U8 xs ++ U8 ys).toArray ++ Builtin.zeroCells (Value.int .u8 0).cells (gc - (n + m))).size = gc := by
      simp only [Array.size_append, List.size_toArray, size_zeroCells, hz1', List.length_append, U8_length]
      omega
    have hold2 : ∀ k, k < w.heap.size → (w.drew.alloc (.cells ((U8 xs ++ U8 ys).toArray ++ Builtin.zeroCells (Value.int .u8 0).cells (gc - (n + m))) 5)).heap[k]? = w.heap[k]? := fun k hk => heap_alloc_old w.drew _ hk
    have hget : ∀ (j : Nat) (u : Value), (U8 (xs ++ ys))[j]? = some u → ((U8 xs ++ U8 ys).toArray ++ Builtin.zeroCells (Value.int .u8 0).cells (gc - (n + m)))[j]? = some u := fun j u hu => by
      rw [U8_append] at hu
      have hj : j < (U8 xs ++ U8 ys).toArray.size := by
        rw [List.size_toArray]
        rcases Nat.lt_or_ge j (U8 xs ++ U8 ys).length with h | h
        · exact h
        · rw [List.getElem?_eq_none h] at hu; cases hu
      rw [Array.getElem?_append_left hj]
      simpa using hu
    have hsize : w.heap.size < (w.drew.alloc (.cells ((U8 xs ++ U8 ys).toArray ++ Builtin.zeroCells (Value.int .u8 0).cells (gc - (n + m))) 5)).heap.size := by simp
    have hg1 : w.grownBy (w.drew.alloc (.cells ((U8 xs ++ U8 ys).toArray ++ Builtin.zeroCells (Value.int .u8 0).cells (gc - (n + m))) 5)) (Value.slice a n cap).ownBlock := ⟨rfl, rfl, rfl, by simp, fun k hk _ => hold2 k hk⟩
    have hnew2 : (w.drew.alloc (.cells ((U8 xs ++ U8 ys).toArray ++ Builtin.zeroCells (Value.int .u8 0).cells (gc - (n + m))) 5)).heap[w.heap.size]? = some (.cells ((U8 xs ++ U8 ys).toArray ++ Builtin.zeroCells (Value.int .u8 0).cells (gc - (n + m))) 5 (0, 0)) := hnew
    clear hnew hold2
    generalize w.drew.alloc (.cells ((U8 xs ++ U8 ys).toArray ++ Builtin.zeroCells (Value.int .u8 0).cells (gc - (n + m))) 5) = W1 at *
    generalize (U8 xs ++ U8 ys).toArray ++ Builtin.zeroCells (Value.int .u8 0).cells (gc - (n + m)) = arr at *
    have hcell : ∀ k, W1.cell? ⟨w.heap.size, k, none⟩ = arr[k]? := fun k => by simp [World.cell?, hnew2]
    have hfro : ∀ k, W1.frozen? ⟨w.heap.size, k, none⟩ = false := fun k => by simp [World.frozen?, hnew2]
    refine ⟨_, _, hr, ⟨by rw [List.length_append]; omega, .inr ⟨w.heap.size, 0, gc, rfl, hbase, hsize, hge, hcm2, ?_, ?_⟩⟩, hg1, .inr rfl⟩
    · intro j u hu
      rw [Nat.zero_add, hcell]
      exact hget j u hu
    · intro j hj
      rw [Nat.zero_add, hcell, hfro]
      exact ⟨by rw [Array.getElem?_eq_getElem (by rw [hsz]; exact hj)]; rfl, rfl⟩
  have hxl : xs.length = n := h.1
  rcases h.2 with ⟨rfl, h0⟩ | ⟨g, o, cap, rfl, hb, hlt, hn, hc, hr, ht⟩
  · subst h0
    obtain rfl : xs = [] := List.eq_nil_of_length_eq_zero hxl
    by_cases hm0 : m = 0
    · subst hm0
      obtain rfl : ys = [] := List.eq_nil_of_length_eq_zero hm
      refine ⟨.slice none 0 0, w, ?_, Mid.nil w base, ⟨rfl, rfl, rfl, Nat.le_refl _, fun _ _ _ => rfl⟩, .inl rfl⟩
      have h2 := hs.cells
      have h3 := hs.len
      rcases hs.kind with ⟨e', hk⟩ | hk <;> simp [Builtin.append_, run_underlying Tryd.underlying38, run_underlying hk, sizeOf, typeInfo, hi, hz1, h3, h2, U8]
    · exact grow none 0 rfl (by omega) (run_firstCells_none w.drew 1 0 0 0)
  · by_cases hroom : n + m ≤ cap
    · have hra := run_append_room_src (P := Tryd.prog) w 38 tx ty 5 i Tryd.underlying38 hi g o n cap x m (U8 ys) (by rw [hz1]; exact hs) hroom
        (fun j hj => by rw [U8_length] at hj; rw [hz1, Nat.mul_one, Nat.add_assoc]; exact (ht (n + j) (by omega)).1)
        (fun j hj => by rw [U8_length] at hj; rw [hz1, Nat.mul_one, Nat.add_assoc]; exact (ht (n + j) (by omega)).2)
      rw [hz1, Nat.mul_one] at hra
      have hth : w.there g (o + n) (U8 ys).length := fun j hj => by rw [U8_length] at hj; rw [Nat.add_assoc]; exact ht (n + j) (by omega)
      have hg := grownBy_setCells w g (o + n) (U8 ys)
      refine ⟨_, _, hra, ⟨by rw [List.length_append]; omega, .inr ⟨g, o, cap, rfl, hb, Nat.lt_of_lt_of_le hlt hg.size, hroom, hc, ?_, World.there_setCells ht g (o + n) (U8 ys)⟩⟩, hg, .inl rfl⟩
      rw [U8_append]
      refine rangeAt_both (World.rangeAt_setCells_apart hr g (o + n) (U8 ys) (.inr (.inl (by rw [U8_length]; omega)))) ?_
      rw [U8_length, hxl]
      exact World.rangeAt_setCells_same w g (o + n) (U8 ys) hth
    · refine grow (some ⟨g, o, none⟩) cap rfl (by omega) (run_firstCells_some w.drew 1 n ⟨g, o, none⟩ n cap (U8 xs) (by rw [U8_length]; omega) fun j u hu => ?_)
      rw [Addr.add_mid]
      have := hr j u hu
      simpa using this
end Go.Proofs.YtcbjadecocggjaaDoor
