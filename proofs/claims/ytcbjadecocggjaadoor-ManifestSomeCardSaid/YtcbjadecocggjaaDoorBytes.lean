/- Slices of bytes in the machine's memory: what their elements are, through calls that write nothing of them; literals; appends to rows of the call's own; as text. -/
import Derived.Test.YtcbjadecocggjaaDoorRows
import Derived.WalkKit
import Derived.ProofKit
import Derived.OpenShut
import Derived.Below
import Derived.LoopN
import Derived.Lib.SmallJoins
import Derived.Laws.BytesArg
import Derived.Laws.AppendOwnNone
import Derived.Deep.AppendLies
namespace Go.Proofs.YtcbjadecocggjaaDoor
open Go.RowKit
set_option linter.unusedVariables false

theorem ret_u32 {a b : Int} (h : a = b) : Ending.returned (.int .u32 a) = .returned (.int .u32 b) := by rw [h]
/-- The bytes that a slice's elements are. -/
def Bytes (w : World) (a : Option Addr) (len : Nat) (xs : List Int) : Prop :=
  xs.length = len ∧ len ≤ 9223372036854775807 ∧ (∀ j : Nat, 0 ≤ xs[j]?.getD 0 ∧ xs[j]?.getD 0 ≤ 255) ∧ (len = 0 ∨ ∃ b off, a = some ⟨b, off, none⟩ ∧ ∀ j, j < len → w.cell? ⟨b, off + j, none⟩ = some (.int .u8 (xs[j]?.getD 0)))

theorem Bytes.below {w w' : World} {a : Option Addr} {len : Nat} {xs : List Int} (h : Bytes w a len xs) (hb : Below w.heap.size w w') : Bytes w' a len xs := by
  obtain ⟨h1, h2, h3, h4 | ⟨b, off, rfl, hc⟩⟩ := h
  · exact ⟨h1, h2, h3, .inl h4⟩
  · refine ⟨h1, h2, h3, .inr ⟨b, off, rfl, fun j hj => ?_⟩⟩
    have hlt : b < w.heap.size := by
      rcases Nat.lt_or_ge b w.heap.size with h | h
      · exact h
      · have := hc j hj
        simp [World.cell?, Array.getElem?_eq_none h] at this
    rw [hb.cell (p := ⟨b, off + j, none⟩) hlt]
    exact hc j hj
theorem Bytes.sub {w : World} {b off len : Nat} {xs : List Int} (h : Bytes w (some ⟨b, off, none⟩) len xs) (lo n : Nat) (hn : lo + n ≤ len) : Bytes w (some ⟨b, off + lo, none⟩) n ((xs.drop lo).take n) := by
  obtain ⟨h1, h2, h3, h4⟩ := h
  have e : ∀ j, j < n → ((xs.drop lo).take n)[j]?.getD 0 = xs[lo + j]?.getD 0 := fun j hj => by rw [List.getElem?_take_of_lt hj, List.getElem?_drop]
  refine ⟨by simp; omega, by omega, fun j => ?_, ?_⟩
  · by_cases hj : j < n
    · rw [e j hj]; exact h3 _
    · rw [List.getElem?_eq_none (by simp; omega)]; simp
  · rcases h4 with h4 | ⟨b', off', ha, hc⟩
    · left; omega
    · simp only [Option.some.injEq, Addr.mk.injEq] at ha
      obtain ⟨rfl, rfl, -⟩ := ha
      exact .inr ⟨b, off + lo, rfl, fun j hj => by rw [e j hj, Nat.add_assoc]; exact hc _ (by omega)⟩
theorem Bytes.lt {w : World} {b off len : Nat} {xs : List Int} (h : Bytes w (some ⟨b, off, none⟩) len xs) (hl : 0 < len) : b < w.heap.size := by
  obtain ⟨h1, h2, h3, h4 | ⟨b', off', e, hc⟩⟩ := h
  · omega
  · simp only [Option.some.injEq, Addr.mk.injEq] at e
    obtain ⟨rfl, rfl, -⟩ := e
    have hc0 := hc 0 hl
    rcases Nat.lt_or_ge b w.heap.size with h | h
    · exact h
    · simp [World.cell?, Array.getElem?_eq_none h] at hc0
theorem u8_range (op : BinOp) (x y : Int) : 0 ≤ bits op .u8 x y ∧ bits op .u8 x y ≤ 255 := bounds_u8 (wf_bits op .u8 x y)
theorem Bytes.first {w : World} {a : Option Addr} {len : Nat} {xs : List Int} (h : Bytes w a len xs) (n : Nat) : Bytes w a (min len n) (xs.take n) := by
  obtain ⟨h1, h2, h3, h4⟩ := h
  have e : ∀ j, j < min len n → (xs.take n)[j]?.getD 0 = xs[j]?.getD 0 := fun j hj => by rw [List.getElem?_take_of_lt (by omega)]
  refine ⟨by rw [List.length_take]; omega, by omega, fun j => ?_, ?_⟩
  · by_cases hj : j < min len n
    · rw [e j hj]; exact h3 j
    · rw [List.getElem?_eq_none (by rw [List.length_take]; omega)]; simp
  · rcases h4 with h4 | ⟨b, off, ha, hc⟩
    · left; omega
    · exact .inr ⟨b, off, ha, fun j hj => by rw [e j hj]; exact hc j (by omega)⟩
theorem bytes_of {w : World} {a : Option Addr} {len cap : Nat} {zs : List Int}
    (h : (a = none ∧ len = 0 ∧ cap = 0 ∧ zs = []) ∨ ∃ x, a = some x ∧ len ≤ cap ∧ cap ≤ maxLen ∧ zs.length = cap ∧ (∀ i, i < zs.length → w.cell? (x.add i) = some (.int .u8 (zs.getD i 0))) ∧ ∀ n ∈ zs, (Lit.int .u8 n).wf = true) :
    Bytes w a len (zs.take len) ∧ len ≤ cap ∧ cap ≤ 9223372036854775807 := by
  rcases h with ⟨rfl, rfl, rfl, rfl⟩ | ⟨x, rfl, hl, hm, hz, hc, hw⟩
  · exact ⟨⟨rfl, by omega, by simp, .inl rfl⟩, by omega, by omega⟩
  · have hm' : cap ≤ 9223372036854775807 := by unfold maxLen at hm; omega
    refine ⟨?_, hl, hm'⟩
    have hfull : Bytes w (some x) cap zs := by
      refine ⟨hz, hm', range_u8 hw, ?_⟩
      by_cases h0 : cap = 0
      · exact .inl h0
      · obtain ⟨b, off, spot⟩ := x
        have hspot : spot = none := by simpa [Addr.add] using World.cell?_spot (hc 0 (by omega))
        subst hspot
        refine .inr ⟨b, off, rfl, fun j hj => ?_⟩
        have := hc j (by omega)
        by_cases j0 : j = 0
        · subst j0; simpa [Addr.add, List.getD_eq_getElem?_getD] using this
        · simpa [Addr.add, j0, List.getD_eq_getElem?_getD] using this
    have h2 := hfull.first len
    rwa [show min cap len = len by omega] at h2
theorem cell_new (w : World) (g : Nat) (hg : g = w.heap.size) (vs : Array Value) (t : TypeId) (fz : Nat × Nat) (j : Nat) (v : Value) (h : vs[j]? = some v) : (w.alloc (.cells vs t fz)).cell? ⟨g, 0 + j, none⟩ = some v := by
  subst hg
  have hh : (w.alloc (.cells vs t fz)).heap[w.heap.size]? = some (.cells vs t fz) := by
    show (w.heap.push _)[w.heap.size]? = _
    simp
  unfold World.cell?
  rw [hh]
  simpa using h
theorem Bytes.lit (w : World) (g : Nat) (hg : g = w.heap.size) (xs : List Int) (t : TypeId) (fz : Nat × Nat) (n : Nat) (hn : xs.length = n) (hn1 : n ≤ 9223372036854775807) (hx : ∀ x ∈ xs, 0 ≤ x ∧ x ≤ 255) :
    Bytes (w.alloc (.cells (xs.map (Value.int .u8)).toArray t fz)) (some ⟨g, 0, none⟩) n xs := by
  refine ⟨hn, hn1, fun j => ?_, .inr ⟨_, _, rfl, fun j hj => cell_new w g hg _ t fz j _ ?_⟩⟩
  · by_cases hj : j < xs.length
    · rw [List.getElem?_eq_getElem hj]; exact hx _ (List.getElem_mem hj)
    · rw [List.getElem?_eq_none (by omega)]; simp
  · have hj' : j < xs.length := by omega
    simp [hj']

/-! ### Rows of the call's own -/
theorem u8info : (Tryd.prog.info? 5).map (fun i => (i.zero, i.size, i.bytes)) = some (some (.int .u8 0), 1, 1) := by kernel_rfl
/-- A row of bytes that the call owns, from block 'base' on. -/
def Own (w : World) (base : Nat) (v : Value) (n : Nat) (xs : List Int) : Prop := w.ownsRow base 5 1 v n (xs.map (Value.int .u8))
theorem Own.shape {w : World} {base : Nat} {v : Value} {n : Nat} {xs : List Int} (h : Own w base v n xs) : ∃ a c, v = .slice a n c ∧ n ≤ c ∧ (a = none → c = 0) ∧ c ≤ 9223372036854775807 := by
  obtain ⟨h1, ⟨rfl, rfl⟩ | ⟨g, cap, cur, rfl, h3, h4, h5, h6, h7, h8⟩⟩ := h
  · exact ⟨none, 0, rfl, by omega, fun _ => rfl, by omega⟩
  · exact ⟨_, cap, rfl, h5, (fun e => by cases e), by unfold maxLen at h6; omega⟩
theorem Own.bytes {w : World} {base : Nat} {a : Option Addr} {n c : Nat} {xs : List Int} (h : Own w base (.slice a n c) n xs) (hx : ∀ j : Nat, 0 ≤ xs[j]?.getD 0 ∧ xs[j]?.getD 0 ≤ 255) : Bytes w a n xs := by
  obtain ⟨h1, h2⟩ := h
  have hl : xs.length = n := by simpa using h1
  rcases h2 with ⟨h3, rfl⟩ | ⟨g, cap, cur, h3, h4, h5, h6, h7, h8, h9⟩
  · exact ⟨hl, by omega, hx, .inl rfl⟩
  · simp only [Value.slice.injEq, true_and] at h3
    obtain ⟨rfl, rfl⟩ := h3
    refine ⟨hl, by unfold maxLen at h7; omega, hx, .inr ⟨g, 0, rfl, fun j hj => ?_⟩⟩
    have hj' : j < xs.length := by omega
    unfold World.cell?
    simp only [h5, Nat.zero_add]
    have e := congrArg (fun l => l[j]?) h9
    simp only [Nat.mul_one, List.getElem?_map, List.getElem?_eq_getElem hj', Option.map_some] at e
    rw [List.getElem?_take_of_lt hj, Array.getElem?_toList] at e
    simpa [List.getElem?_eq_getElem hj'] using e
theorem range_append {xs ys : List Int} (hx : ∀ j : Nat, 0 ≤ xs[j]?.getD 0 ∧ xs[j]?.getD 0 ≤ 255) (hy : ∀ j : Nat, 0 ≤ ys[j]?.getD 0 ∧ ys[j]?.getD 0 ≤ 255) (j : Nat) : 0 ≤ (xs ++ ys)[j]?.getD 0 ∧ (xs ++ ys)[j]?.getD 0 ≤ 255 := by
  by_cases h : j < xs.length
  · rw [List.getElem?_append_left h]; exact hx j
  · rw [List.getElem?_append_right (by omega)]; exact hy _
/-- append(v, ys...), v the call's own. -/
theorem append_run (w : World) (ty : TypeId) (base : Nat) (v : Value) (n : Nat) (xs : List Int) (hown : Own w base v n xs) (a : Option Addr) (m c : Nat) (ys : List Int) (HB : Bytes w a m ys) (hnil : a = none → c = 0)
    (hsum : n + m ≤ 70368744177664) (hbase : base ≤ w.heap.size) :
    ∃ v' w', (Builtin.append_ #[38, 38] ty #[v, .slice a m c]).run Tryd.prog w = .ok v' w' ∧ Own w' base v' (n + m) (xs ++ ys) ∧ w.grownBy w' v.ownBlock := by
  obtain ⟨i, hi, hz0, hz1, hz2⟩ := info_parts u8info
  obtain ⟨h1, h2, h3, h4⟩ := HB
  have key : ∀ x : Addr, (∀ j u, (ys.map (Value.int .u8))[j]? = some u → w.cell? (x.add j) = some u) →
      ∃ v' w', (Builtin.append_ #[38, 38] ty #[v, .slice (some x) m c]).run Tryd.prog w = .ok v' w' ∧ Own w' base v' (n + m) (xs ++ ys) ∧ w.grownBy w' v.ownBlock := by
    intro x hx
    obtain ⟨v', w', r1, r2, r3, -⟩ := run_append_own (P := Tryd.prog) w base 38 ty 5 i (.int .u8 0) 1 1 Tryd.underlying38 hi hz0 hz1 hz2 rfl (by decide) v n _ hown x m c (ys.map (Value.int .u8)) (by simpa using h1) hx
      (fun u hu => by obtain ⟨y, -, rfl⟩ := List.mem_map.1 hu; rfl) (by unfold maxLen; omega) (by omega) hbase
    exact ⟨v', w', r1, by unfold Own; rw [List.map_append]; exact r2, r3⟩
  rcases h4 with rfl | ⟨b, off, rfl, hc⟩
  · obtain rfl : ys = [] := List.eq_nil_of_length_eq_zero h1
    cases a with
    | none =>
      obtain rfl := hnil rfl
      refine ⟨v, w, run_append_owned_none (P := Tryd.prog) (w := w) base 38 ty 5 i 1 Tryd.underlying38 hi v n _ hown, by simpa using hown, ⟨rfl, rfl, rfl, Nat.le_refl _, fun _ _ _ => rfl⟩⟩
    | some x => exact key x (by simp)
  · refine key _ fun j u hu => ?_
    have hj : j < ys.length := by
      rcases Nat.lt_or_ge j ys.length with h | h
      · exact h
      · simp [List.getElem?_eq_none (show (ys.map (Value.int .u8)).length ≤ j by simpa using h)] at hu
    have hplain : (⟨b, off, none⟩ : Addr).add j = ⟨b, off + j, none⟩ := by unfold Addr.add; split <;> simp_all
    rw [hplain, hc j (by omega)]
    simpa [List.getElem?_eq_getElem hj] using hu
/-- The same at the operation. -/
theorem wpList_append_bytes {w : World} {ops : Array Oper} {rest : List Oper} {o : Oper} {ac : Act} {Q : Exit → Act → World → Prop} (hgd : o.guard = none) (s x : Operand)
    (ho : o.op = .call { callee := .builtin .append, args := #[s, x], argTypes := #[38, 38] })
    (base : Nat) (v : Value) (n : Nat) (xs : List Int) (hs : ac.eval s = v) (hown : Own w base v n xs) (a : Option Addr) (m c : Nat) (ys : List Int) (hx : ac.eval x = .slice a m c) (HB : Bytes w a m ys) (hnil : a = none → c = 0)
    (hsum : n + m ≤ 70368744177664) (hbase : base ≤ w.heap.size)
    (h : ∀ v' w', Own w' base v' (n + m) (xs ++ ys) → w.grownBy w' v.ownBlock → wpList Tryd.prog ops Q rest (ac.put o.dst v') w') : wpList Tryd.prog ops Q (o :: rest) ac w := by
  refine wpList_plain hgd fun K hK => ?_
  obtain ⟨v', w', hrun, r1, r2⟩ := append_run w o.type base v n xs hown a m c ys HB hnil hsum hbase
  unfold Oper.wp
  simp [execOp, ho, resolve, invoke, builtin, hs, hx, hrun, Result.andThen]
  exact hK _ _ (h v' w' r1 r2)
/-- The same at a step of a region that draws its order. -/
theorem step_append_bytes {w : World} {ops : Array Oper} {o : Oper} {ac : Act} {K : Act → World → Prop} {Q : Exit → Act → World → Prop} {E : Prop} (hgd : o.guard = none) (s x : Operand)
    (ho : o.op = .call { callee := .builtin .append, args := #[s, x], argTypes := #[38, 38] })
    (base : Nat) (v : Value) (n : Nat) (xs : List Int) (hs : ac.eval s = v) (hown : Own w base v n xs) (a : Option Addr) (m c : Nat) (ys : List Int) (hx : ac.eval x = .slice a m c) (HB : Bytes w a m ys) (hnil : a = none → c = 0)
    (hsum : n + m ≤ 70368744177664) (hbase : base ≤ w.heap.size)
    (h : ∀ v' w', Own w' base v' (n + m) (xs ++ ys) → w.grownBy w' v.ownBlock → K (ac.put o.dst v') w') : if Region.wanted o (yielded ops ac.tmps) = true then Oper.wp Tryd.prog o ac w K Q else E := by
  have hw : Region.wanted o (yielded ops ac.tmps) = true := by simp [Region.wanted, hgd]
  rw [if_pos hw]
  obtain ⟨v', w', hrun, r1, r2⟩ := append_run w o.type base v n xs hown a m c ys HB hnil hsum hbase
  unfold Oper.wp
  simp [execOp, ho, resolve, invoke, builtin, hs, hx, hrun, Result.andThen]
  exact h v' w' r1 r2
theorem Own.below {w w' : World} {base : Nat} {v : Value} {n : Nat} {xs : List Int} (h : Own w base v n xs) (hb : Below w.heap.size w w') : Own w' base v n xs := by
  obtain ⟨h1, h2 | ⟨g, cap, cur, h3, h4, h5, h6⟩⟩ := h
  · exact ⟨h1, .inl h2⟩
  · refine ⟨h1, .inr ⟨g, cap, cur, h3, h4, ?_, h6⟩⟩
    rw [hb.block g (by
      rcases Nat.lt_or_ge g w.heap.size with h | h
      · exact h
      · simp [Array.getElem?_eq_none h] at h5)]
    exact h5
/-- What an append to a row of the call's own leaves below 'base'. -/
theorem Own.kept {w w' : World} {base : Nat} {v : Value} {n : Nat} {xs : List Int} (h : Own w base v n xs) (hbase : base ≤ w.heap.size) (hg : w.grownBy w' v.ownBlock) : Below base w w' := by
  refine (Below.refl base w).grown hg hbase fun k hk => ?_
  obtain ⟨h1, ⟨rfl, rfl⟩ | ⟨g, cap, cur, rfl, h4, h5⟩⟩ := h
  · cases hk
  · simp only [Value.ownBlock, Option.some.injEq] at hk; omega
theorem Own.cast {w : World} {base : Nat} {v : Value} {n : Nat} {xs ys : List Int} (h : Own w base v n xs) (e : xs = ys) : Own w base v ys.length ys := by
  subst e
  have : xs.length = n := by have := h.1; simpa using this
  rw [this]; exact h
theorem Own.form {w : World} {base : Nat} {v : Value} {n : Nat} {xs : List Int} (h : Own w base v n xs) (hn : 0 < n) : ∃ g c, v = .slice (some ⟨g, 0, none⟩) n c ∧ n ≤ c ∧ c ≤ 9223372036854775807 ∧ base ≤ g ∧ g < w.heap.size := by
  obtain ⟨h1, ⟨rfl, rfl⟩ | ⟨g, cap, cur, rfl, h3, h4, h5, h6, h7, h8⟩⟩ := h
  · omega
  · refine ⟨g, cap, rfl, h5, by unfold maxLen at h6; omega, h3, ?_⟩
    rcases Nat.lt_or_ge g w.heap.size with h | h
    · exact h
    · simp [Array.getElem?_eq_none h] at h4
theorem Own.free {w : World} {base g n c : Nat} {xs : List Int} (h : Own w base (.slice (some ⟨g, 0, none⟩) n c) n xs) (j : Nat) : w.frozen? ⟨g, j, none⟩ = false := by
  obtain ⟨h1, ⟨h2, -⟩ | ⟨g', cap, cur, h2, h3, h4, h5⟩⟩ := h
  · cases h2
  · simp only [Value.slice.injEq, Option.some.injEq, Addr.mk.injEq, and_true, true_and] at h2
    obtain ⟨rfl, rfl⟩ := h2
    simp [World.frozen?, h4]
theorem Own.cell {w : World} {base g n c : Nat} {xs : List Int} (h : Own w base (.slice (some ⟨g, 0, none⟩) n c) n xs) (j : Nat) (hj : j < n) : w.cell? ⟨g, j, none⟩ = some (.int .u8 (xs[j]?.getD 0)) := by
  obtain ⟨h1, h2⟩ := h
  have hl : xs.length = n := by simpa using h1
  rcases h2 with ⟨h3, -⟩ | ⟨g', cap, cur, h3, h4, h5, h6, h7, h8, h9⟩
  · cases h3
  · simp only [Value.slice.injEq, Option.some.injEq, Addr.mk.injEq, and_true, true_and] at h3
    obtain ⟨rfl, rfl⟩ := h3
    have hj' : j < xs.length := by omega
    unfold World.cell?
    simp only [h5]
    have e := congrArg (fun l => l[j]?) h9
    simp only [Nat.mul_one, List.getElem?_map, List.getElem?_eq_getElem hj', Option.map_some] at e
    rw [List.getElem?_take_of_lt hj, Array.getElem?_toList] at e
    simpa [List.getElem?_eq_getElem hj'] using e
theorem Own.stored {w : World} {base g n c : Nat} {xs : List Int} (h : Own w base (.slice (some ⟨g, 0, none⟩) n c) n xs) (j : Nat) (u : Int) : Own (w.setCell ⟨g, j, none⟩ (.int .u8 u)) base (.slice (some ⟨g, 0, none⟩) n c) n (xs.set j u) := by
  have := (World.ownsRow.stored h j (.int .u8 u)).1
  unfold Own
  rwa [List.map_set]
theorem Own.other {w : World} {base g n c : Nat} {xs : List Int} (h : Own w base (.slice (some ⟨g, 0, none⟩) n c) n xs) (p : Addr) (hp : p.block ≠ g) (u : Value) : Own (w.setCell p u) base (.slice (some ⟨g, 0, none⟩) n c) n xs := by
  obtain ⟨h1, ⟨h2, -⟩ | ⟨g', cap, cur, h2, h3, h4, h5⟩⟩ := h
  · cases h2
  · simp only [Value.slice.injEq, Option.some.injEq, Addr.mk.injEq, and_true, true_and] at h2
    obtain ⟨rfl, rfl⟩ := h2
    exact ⟨h1, .inr ⟨g, c, cur, rfl, h3, by rw [Below.heap_setCell _ _ _ _ (by omega)]; exact h4, h5⟩⟩
theorem Own.drew {w : World} {base : Nat} {v : Value} {n : Nat} {xs : List Int} (h : Own w base v n xs) : Own w.drew base v n xs := h
/-- A row of the call's own stays where no block from 'base' on is changed. -/
theorem Own.far {w w' : World} {base : Nat} {v : Value} {n : Nat} {xs : List Int} (h : Own w base v n xs) (hb : ∀ g, base ≤ g → w'.heap[g]? = w.heap[g]?) : Own w' base v n xs := by
  obtain ⟨h1, h2 | ⟨g, cap, cur, h3, h4, h5, h6⟩⟩ := h
  · exact ⟨h1, .inl h2⟩
  · exact ⟨h1, .inr ⟨g, cap, cur, h3, h4, by rw [hb g h4]; exact h5, h6⟩⟩
def numOf : Option Value → Int
  | some (.int _ z) => z
  | _ => 0
theorem Own.empty (w : World) : Own (w.alloc (.cells #[] 5)) w.heap.size (.slice (some ⟨w.heap.size, 0, none⟩) 0 0) 0 [] :=
  ⟨rfl, .inr ⟨w.heap.size, 0, #[], rfl, Nat.le_refl _, by show (w.heap.push _)[w.heap.size]? = _; simp, Nat.le_refl _, by unfold maxLen; omega, rfl, rfl⟩⟩

/-! ### Bytes as text -/
theorem text_run (w : World) (a : Option Addr) (n c : Nat) (xs : List Int) (H : Bytes w a n xs) : (convert 38 9 (.slice a n c)).run Tryd.prog w = .ok (.string (strOfNums xs)) w := by
  obtain ⟨h1, h2, h3, h4⟩ := H
  rcases h4 with rfl | ⟨b, off, rfl, hc⟩
  · obtain rfl : xs = [] := List.eq_nil_of_length_eq_zero h1
    cases a with
    | none => exact run_convert_bytes_nil (P := Tryd.prog) w 38 5 Tryd.underlying38 Tryd.underlying5 0 c 9 Tryd.underlying9
    | some x =>
      rw [run_convert_bytes_string w 38 9 5 _ 0 c Tryd.underlying38 Tryd.underlying5 Tryd.underlying9, run_bytesToString w x 0 c [] (by simpa using run_loadCells_list (P := Tryd.prog) w x [] (by simp))]
      rfl
  · exact run_convert_bytes_arg (P := Tryd.prog) w 38 5 Tryd.underlying38 Tryd.underlying5 b off n c xs h1 (fun i hi => by rw [hc i hi, List.getD_eq_getElem?_getD]) 9 Tryd.underlying9
theorem run_max2 {P : Program} (ts : Array TypeId) (t : TypeId) (k k1 : IntKind) (x y : Int) (w : World) : (Builtin.max_ ts t #[.int k x, .int k1 y]).run P w = .ok (.int k (max x y)) w := by
  have e : ∀ p q : Int, (if p < q then q else p) = max p q := fun p q => by split <;> omega
  simp [Builtin.max_, Builtin.max2, e]
theorem run_min4 {P : Program} (ts : Array TypeId) (t : TypeId) (k k1 k2 k3 : IntKind) (x y z u : Int) (w : World) : (Builtin.min_ ts t #[.int k x, .int k1 y, .int k2 z, .int k3 u]).run P w = .ok (.int k (min (min (min x y) z) u)) w := by
  have e : ∀ p q : Int, (if q < p then q else p) = min p q := fun p q => by split <;> omega
  simp [Builtin.min_, Builtin.min2, e]
/-! ### A new slice of noughts -/
def Zs (k : Nat) : Array Value := ((List.replicate k (0 : Int)).map (Value.int .u8)).toArray
theorem make_zs (k : Nat) (hk : k ≤ 281474976710656) (w : World) : (Instr.makeSlice 38 (.int .i64 (k : Int)) (.int .i64 (k : Int))).run Tryd.prog w = .ok (.slice (some ⟨w.heap.size, 0, none⟩) k k) (w.alloc (.cells (Zs k) 5)) := by
  obtain ⟨i, hi, hz0, hz1, hz2⟩ := info_parts u8info
  rw [run_make (P := Tryd.prog) w 38 5 i (.int .u8 0) Tryd.underlying38 hi hz0 .i64 .i64 k k (by omega) (Int.le_refl _) (by rw [hz2]; omega) (by omega), hz1]
  have e : madeCells (Value.int .u8 0).cells ((k : Int).toNat * 1) = Zs k := by
    apply Array.toList_inj.1
    rw [show (Value.int .u8 0).cells = #[Value.int .u8 0] from rfl, toList_madeCells_one]
    simp [Zs]
  rw [e]
  rfl
theorem Bytes.zeros (w : World) (g : Nat) (hg : g = w.heap.size) (k : Nat) (hk : k ≤ 9223372036854775807) (fz : Nat × Nat) : Bytes (w.alloc (.cells (Zs k) 5 fz)) (some ⟨g, 0, none⟩) k (List.replicate k 0) :=
  Bytes.lit w g hg (List.replicate k 0) 5 fz k (by simp) hk (fun x hx => by rw [(List.mem_replicate.1 hx).2]; omega)
end Go.Proofs.YtcbjadecocggjaaDoor
