/- Slices of bytes in the machine's memory: what their elements are, through calls that write nothing of them; literals; appends to rows of the call's own; as text. -/
import Derived.Test.YtglgchjkonjpiaaGreatDoorRows
import Derived.WalkKit
import Derived.ProofKit
import Derived.OpenShut
import Derived.Below
import Derived.LoopN
import Derived.Lib.SmallJoins
import Derived.Laws.BytesArg
import Derived.Laws.AppendOwnNone
import Derived.Deep.AppendLies
import Derived.Deep.MidRow
import Derived.Deep.Upon
import Derived.WalkMore
import Derived.WalkLawsBesides
import Derived.Lib.Hide
import Derived.Outline
import Derived.BigQuiet
import Derived.Deep.QuietTactic
import Derived.Deep.RegionLaw
import Derived.StillTailTactics
import Derived.StillTactics
import Derived.IntWalk
/-! Slices of bytes in the machine's memory: what their elements are, through calls that write nothing of them; literals; appends to rows of the call's own; as text. -/
namespace Go.Proofs.YtglgchjkonjpiaaGreatDoor
open Go.RowKit
set_option linter.unusedVariables false

theorem ret_u32 {a b : Int} (h : a = b) : Ending.returned (.int .u32 a) = .returned (.int .u32 b) := by rw [h]
/-- The bytes that a slice's elements are. -/
def Bytes (w : World) (a : Option Addr) (len : Nat) (xs : List Int) : Prop :=
  xs.length = len ∧ len ≤ 9223372036854775807 ∧ (∀ j : Nat, 0 ≤ xs[j]?.getD 0 ∧ xs[j]?.getD 0 ≤ 255) ∧ (len = 0 ∨ ∃ b off, a = some ⟨b, off, none⟩ ∧ ∀ j, j < len → w.cell? ⟨b, off + j, none⟩ = some (.int .u8 (xs[j]?.getD 0)))

theorem Bytes.below {w w' : World} {a : Option Addr} {len : Nat} {xs : List Int} (h : Bytes w a len xs) (hb : Below w.heap.size w w') : Bytes w' a len xs := by
  obtain ⟨h1, h2, h3, h4 | ⟨b, off, rfl, hc⟩⟩ := h
  · exact ⟨h1, h2, h3, .inl h4⟩
  · refine ⟨h1, h2, h3, .inr ⟨b, off, rfl, fun j hj => ?_⟩⟩
    have hlt : b < w.heap.size := by
      rcases Nat.lt_or_ge b w.heap.size with h | h
      · exact h
      · have := hc j hj
        simp [World.cell?, Array.getElem?_eq_none h] at this
    rw [hb.cell (p := ⟨b, off + j, none⟩) hlt]
    exact hc j hj
theorem Bytes.sub {w : World} {b off len : Nat} {xs : List Int} (h : Bytes w (some ⟨b, off, none⟩) len xs) (lo n : Nat) (hn : lo + n ≤ len) : Bytes w (some ⟨b, off + lo, none⟩) n ((xs.drop lo).take n) := by
  obtain ⟨h1, h2, h3, h4⟩ := h
  have e : ∀ j, j < n → ((xs.drop lo).take n)[j]?.getD 0 = xs[lo + j]?.getD 0 := fun j hj => by rw [List.getElem?_take_of_lt hj, List.getElem?_drop]
  refine ⟨by simp; omega, by omega, fun j => ?_, ?_⟩
  · by_cases hj : j < n
    · rw [e j hj]; exact h3 _
    · rw [List.getElem?_eq_none (by simp; omega)]; simp
  · rcases h4 with h4 | ⟨b', off', ha, hc⟩
    · left; omega
    · simp only [Option.some.injEq, Addr.mk.injEq] at ha
      obtain ⟨rfl, rfl, -⟩ := ha
      exact .inr ⟨b, off + lo, rfl, fun j hj => by rw [e j hj, Nat.add_assoc]; exact hc _ (by omega)⟩
theorem Bytes.lt {w : World} {b off len : Nat} {xs : List Int} (h : Bytes w (some ⟨b, off, none⟩) len xs) (hl : 0 < len) : b < w.heap.size := by
  obtain ⟨h1, h2, h3, h4 | ⟨b', off', e, hc⟩⟩ := h
  · omega
  · simp only [Option.some.injEq, Addr.mk.injEq] at e
    obtain ⟨rfl, rfl, -⟩ := e
    have hc0 := hc 0 hl
    rcases Nat.lt_or_ge b w.heap.size with h | h
    · exact h
    · simp [World.cell?, Array.getElem?_eq_none h] at hc0
theorem u8_range (op : BinOp) (x y : Int) : 0 ≤ bits op .u8 x y ∧ bits op .u8 x y ≤ 255 := bounds_u8 (wf_bits op .u8 x y)
theorem Bytes.first {w : World} {a : Option Addr} {len : Nat} {xs : List Int} (h : Bytes w a len xs) (n : Nat) : Bytes w a (min len n) (xs.take n) := by
  obtain ⟨h1, h2, h3, h4⟩ := h
  have e : ∀ j, j < min len n → (xs.take n)[j]?.getD 0 = xs[j]?.getD 0 := fun j hj => by rw [List.getElem?_take_of_lt (by omega)]
  refine ⟨by rw [List.length_take]; omega, by omega, fun j => ?_, ?_⟩
  · by_cases hj : j < min len n
    · rw [e j hj]; exact h3 j
    · rw [List.getElem?_eq_none (by rw [List.length_take]; omega)]; simp
  · rcases h4 with h4 | ⟨b, off, ha, hc⟩
    · left; omega
    · exact .inr ⟨b, off, ha, fun j hj => by rw [e j hj]; exact hc j (by omega)⟩
theorem bytes_of {w : World} {a : Option Addr} {len cap : Nat} {zs : List Int}
    (h : (a = none ∧ len = 0 ∧ cap = 0 ∧ zs = []) ∨ ∃ x, a = some x ∧ len ≤ cap ∧ cap ≤ maxLen ∧ zs.length = cap ∧ (∀ i, i < zs.length → w.cell? (x.add i) = some (.int .u8 (zs.getD i 0))) ∧ ∀ n ∈ zs, (Lit.int .u8 n).wf = true) :
    Bytes w a len (zs.take len) ∧ len ≤ cap ∧ cap ≤ 9223372036854775807 := by
  rcases h with ⟨rfl, rfl, rfl, rfl⟩ | ⟨x, rfl, hl, hm, hz, hc, hw⟩
  · exact ⟨⟨rfl, by omega, by simp, .inl rfl⟩, by omega, by omega⟩
  · have hm' : cap ≤ 9223372036854775807 := by unfold maxLen at hm; omega
    refine ⟨?_, hl, hm'⟩
    have hfull : Bytes w (some x) cap zs := by
      refine ⟨hz, hm', range_u8 hw, ?_⟩
      by_cases h0 : cap = 0
      · exact .inl h0
      · obtain ⟨b, off, spot⟩ := x
        have hspot : spot = none := by simpa [Addr.add] using World.cell?_spot (hc 0 (by omega))
        subst hspot
        refine .inr ⟨b, off, rfl, fun j hj => ?_⟩
        have := hc j (by omega)
        by_cases j0 : j = 0
        · subst j0; simpa [Addr.add, List.getD_eq_getElem?_getD] using this
        · simpa [Addr.add, j0, List.getD_eq_getElem?_getD] using this
    have h2 := hfull.first len
    rwa [show min cap len = len by omega] at h2
theorem cell_new (w : World) (g : Nat) (hg : g = w.heap.size) (vs : Array Value) (t : TypeId) (fz : Nat × Nat) (j : Nat) (v : Value) (h : vs[j]? = some v) : (w.alloc (.cells vs t fz)).cell? ⟨g, 0 + j, none⟩ = some v := by
  subst hg
  have hh : (w.alloc (.cells vs t fz)).heap[w.heap.size]? = some (.cells vs t fz) := by
    show (w.heap.push _)[w.heap.size]? = _
    simp
  unfold World.cell?
  rw [hh]
  simpa using h
theorem Bytes.lit (w : World) (g : Nat) (hg : g = w.heap.size) (xs : List Int) (t : TypeId) (fz : Nat × Nat) (n : Nat) (hn : xs.length = n) (hn1 : n ≤ 9223372036854775807) (hx : ∀ x ∈ xs, 0 ≤ x ∧ x ≤ 255) :
    Bytes (w.alloc (.cells (xs.map (Value.int .u8)).toArray t fz)) (some ⟨g, 0, none⟩) n xs := by
  refine ⟨hn, hn1, fun j => ?_, .inr ⟨_, _, rfl, fun j hj => cell_new w g hg _ t fz j _ ?_⟩⟩
  · by_cases hj : j < xs.length
    · rw [List.getElem?_eq_getElem hj]; exact hx _ (List.getElem_mem hj)
    · rw [List.getElem?_eq_none (by omega)]; simp
  · have hj' : j < xs.length := by omega
    simp [hj']

/-! ### Rows of the call's own -/
theorem u8info : (Tryz.prog.info? 5).map (fun i => (i.zero, i.size, i.bytes)) = some (some (.int .u8 0), 1, 1) := by kernel_rfl
/-- A row of bytes that the call owns, from block 'base' on. -/
def Own (w : World) (base : Nat) (v : Value) (n : Nat) (xs : List Int) : Prop := w.ownsRow base 5 1 v n (xs.map (Value.int .u8))
theorem Own.shape {w : World} {base : Nat} {v : Value} {n : Nat} {xs : List Int} (h : Own w base v n xs) : ∃ a c, v = .slice a n c ∧ n ≤ c ∧ (a = none → c = 0) ∧ c ≤ 9223372036854775807 := by
  obtain ⟨h1, ⟨rfl, rfl⟩ | ⟨g, cap, cur, rfl, h3, h4, h5, h6, h7, h8⟩⟩ := h
  · exact ⟨none, 0, rfl, by omega, fun _ => rfl, by omega⟩
  · exact ⟨_, cap, rfl, h5, (fun e => by cases e), by unfold maxLen at h6; omega⟩
theorem Own.bytes {w : World} {base : Nat} {a : Option Addr} {n c : Nat} {xs : List Int} (h : Own w base (.slice a n c) n xs) (hx : ∀ j : Nat, 0 ≤ xs[j]?.getD 0 ∧ xs[j]?.getD 0 ≤ 255) : Bytes w a n xs := by
  obtain ⟨h1, h2⟩ := h
  have hl : xs.length = n := by simpa using h1
  rcases h2 with ⟨h3, rfl⟩ | ⟨g, cap, cur, h3, h4, h5, h6, h7, h8, h9⟩
  · exact ⟨hl, by omega, hx, .inl rfl⟩
  · simp only [Value.slice.injEq, true_and] at h3
    obtain ⟨rfl, rfl⟩ := h3
    refine ⟨hl, by unfold maxLen at h7; omega, hx, .inr ⟨g, 0, rfl, fun j hj => ?_⟩⟩
    have hj' : j < xs.length := by omega
    unfold World.cell?
    simp only [h5, Nat.zero_add]
    have e := congrArg (fun l => l[j]?) h9
    simp only [Nat.mul_one, List.getElem?_map, List.getElem?_eq_getElem hj', Option.map_some] at e
    rw [List.getElem?_take_of_lt hj, Array.getElem?_toList] at e
    simpa [List.getElem?_eq_getElem hj'] using e
theorem range_append {xs ys : List Int} (hx : ∀ j : Nat, 0 ≤ xs[j]?.getD 0 ∧ xs[j]?.getD 0 ≤ 255) (hy : ∀ j : Nat, 0 ≤ ys[j]?.getD 0 ∧ ys[j]?.getD 0 ≤ 255) (j : Nat) : 0 ≤ (xs ++ ys)[j]?.getD 0 ∧ (xs ++ ys)[j]?.getD 0 ≤ 255 := by
  by_cases h : j < xs.length
  · rw [List.getElem?_append_left h]; exact hx j
  · rw [List.getElem?_append_right (by omega)]; exact hy _
/-- append(v, ys...), v the call's own. -/
theorem append_run (w : World) (ty : TypeId) (base : Nat) (v : Value) (n : Nat) (xs : List Int) (hown : Own w base v n xs) (a : Option Addr) (m c : Nat) (ys : List Int) (HB : Bytes w a m ys) (hnil : a = none → c = 0)
    (hsum : n + m ≤ 70368744177664) (hbase : base ≤ w.heap.size) :
    ∃ v' w', (Builtin.append_ #[22, 22] ty #[v, .slice a m c]).run Tryz.prog w = .ok v' w' ∧ Own w' base v' (n + m) (xs ++ ys) ∧ w.grownBy w' v.ownBlock := by
  obtain ⟨i, hi, hz0, hz1, hz2⟩ := info_parts u8info
  obtain ⟨h1, h2, h3, h4⟩ := HB
  have key : ∀ x : Addr, (∀ j u, (ys.map (Value.int .u8))[j]? = some u → w.cell? (x.add j) = some u) →
      ∃ v' w', (Builtin.append_ #[22, 22] ty #[v, .slice (some x) m c]).run Tryz.prog w = .ok v' w' ∧ Own w' base v' (n + m) (xs ++ ys) ∧ w.grownBy w' v.ownBlock := by
    intro x hx
    obtain ⟨v', w', r1, r2, r3, -⟩ := run_append_own (P := Tryz.prog) w base 22 ty 5 i (.int .u8 0) 1 1 Tryz.underlying22 hi hz0 hz1 hz2 rfl (by decide) v n _ hown x m c (ys.map (Value.int .u8)) (by simpa using h1) hx
      (fun u hu => by obtain ⟨y, -, rfl⟩ := List.mem_map.1 hu; rfl) (by unfold maxLen; omega) (by omega) hbase
    exact ⟨v', w', r1, by unfold Own; rw [List.map_append]; exact r2, r3⟩
  rcases h4 with rfl | ⟨b, off, rfl, hc⟩
  · obtain rfl : ys = [] := List.eq_nil_of_length_eq_zero h1
    cases a with
    | none =>
      obtain rfl := hnil rfl
      refine ⟨v, w, run_append_owned_none (P := Tryz.prog) (w := w) base 22 ty 5 i 1 Tryz.underlying22 hi v n _ hown, by simpa using hown, ⟨rfl, rfl, rfl, Nat.le_refl _, fun _ _ _ => rfl⟩⟩
    | some x => exact key x (by simp)
  · refine key _ fun j u hu => ?_
    have hj : j < ys.length := by
      rcases Nat.lt_or_ge j ys.length with h | h
      · exact h
      · simp [List.getElem?_eq_none (show (ys.map (Value.int .u8)).length ≤ j by simpa using h)] at hu
    have hplain : (⟨b, off, none⟩ : Addr).add j = ⟨b, off + j, none⟩ := by unfold Addr.add; split <;> simp_all
    rw [hplain, hc j (by omega)]
    simpa [List.getElem?_eq_getElem hj] using hu
/-- The same at the operation. -/
theorem wpList_append_bytes {w : World} {ops : Array Oper} {rest : List Oper} {o : Oper} {ac : Act} {Q : Exit → Act → World → Prop} (hgd : o.guard = none) (s x : Operand)
    (ho : o.op = .call { callee := .builtin .append, args := #[s, x], argTypes := #[22, 22] })
    (base : Nat) (v : Value) (n : Nat) (xs : List Int) (hs : ac.eval s = v) (hown : Own w base v n xs) (a : Option Addr) (m c : Nat) (ys : List Int) (hx : ac.eval x = .slice a m c) (HB : Bytes w a m ys) (hnil : a = none → c = 0)
    (hsum : n + m ≤ 70368744177664) (hbase : base ≤ w.heap.size)
    (h : ∀ v' w', Own w' base v' (n + m) (xs ++ ys) → w.grownBy w' v.ownBlock → wpList Tryz.prog ops Q rest (ac.put o.dst v') w') : wpList Tryz.prog ops Q (o :: rest) ac w := by
  refine wpList_plain hgd fun K hK => ?_
  obtain ⟨v', w', hrun, r1, r2⟩ := append_run w o.type base v n xs hown a m c ys HB hnil hsum hbase
  unfold Oper.wp
  simp [execOp, ho, resolve, invoke, builtin, hs, hx, hrun, Result.andThen]
  exact hK _ _ (h v' w' r1 r2)
/-- The same at a step of a region that draws its order. -/
theorem step_append_bytes {w : World} {ops : Array Oper} {o : Oper} {ac : Act} {K : Act → World → Prop} {Q : Exit → Act → World → Prop} {E : Prop} (hgd : o.guard = none) (s x : Operand)
    (ho : o.op = .call { callee := .builtin .append, args := #[s, x], argTypes := #[22, 22] })
    (base : Nat) (v : Value) (n : Nat) (xs : List Int) (hs : ac.eval s = v) (hown : Own w base v n xs) (a : Option Addr) (m c : Nat) (ys : List Int) (hx : ac.eval x = .slice a m c) (HB : Bytes w a m ys) (hnil : a = none → c = 0)
    (hsum : n + m ≤ 70368744177664) (hbase : base ≤ w.heap.size)
    (h : ∀ v' w', Own w' base v' (n + m) (xs ++ ys) → w.grownBy w' v.ownBlock → K (ac.put o.dst v') w') : if Region.wanted o (yielded ops ac.tmps) = true then Oper.wp Tryz.prog o ac w K Q else E := by
  have hw : Region.wanted o (yielded ops ac.tmps) = true := by simp [Region.wanted, hgd]
  rw [if_pos hw]
  obtain ⟨v', w', hrun, r1, r2⟩ := append_run w o.type base v n xs hown a m c ys HB hnil hsum hbase
  unfold Oper.wp
  simp [execOp, ho, resolve, invoke, builtin, hs, hx, hrun, Result.andThen]
  exact h v' w' r1 r2
theorem Own.below {w w' : World} {base : Nat} {v : Value} {n : Nat} {xs : List Int} (h : Own w base v n xs) (hb : Below w.heap.size w w') : Own w' base v n xs := by
  obtain ⟨h1, h2 | ⟨g, cap, cur, h3, h4, h5, h6⟩⟩ := h
  · exact ⟨h1, .inl h2⟩
  · refine ⟨h1, .inr ⟨g, cap, cur, h3, h4, ?_, h6⟩⟩
    rw [hb.block g (by
      rcases Nat.lt_or_ge g w.heap.size with h | h
      · exact h
      · simp [Array.getElem?_eq_none h] at h5)]
    exact h5
/-- What an append to a row of the call's own leaves below 'base'. -/
theorem Own.kept {w w' : World} {base : Nat} {v : Value} {n : Nat} {xs : List Int} (h : Own w base v n xs) (hbase : base ≤ w.heap.size) (hg : w.grownBy w' v.ownBlock) : Below base w w' := by
  refine (Below.refl base w).grown hg hbase fun k hk => ?_
  obtain ⟨h1, ⟨rfl, rfl⟩ | ⟨g, cap, cur, rfl, h4, h5⟩⟩ := h
  · cases hk
  · simp only [Value.ownBlock, Option.some.injEq] at hk; omega
theorem Own.cast {w : World} {base : Nat} {v : Value} {n : Nat} {xs ys : List Int} (h : Own w base v n xs) (e : xs = ys) : Own w base v ys.length ys := by
  subst e
  have : xs.length = n := by have := h.1; simpa using this
  rw [this]; exact h
theorem Own.form {w : World} {base : Nat} {v : Value} {n : Nat} {xs : List Int} (h : Own w base v n xs) (hn : 0 < n) : ∃ g c, v = .slice (some ⟨g, 0, none⟩) n c ∧ n ≤ c ∧ c ≤ 9223372036854775807 ∧ base ≤ g ∧ g < w.heap.size := by
  obtain ⟨h1, ⟨rfl, rfl⟩ | ⟨g, cap, cur, rfl, h3, h4, h5, h6, h7, h8⟩⟩ := h
  · omega
  · refine ⟨g, cap, rfl, h5, by unfold maxLen at h6; omega, h3, ?_⟩
    rcases Nat.lt_or_ge g w.heap.size with h | h
    · exact h
    · simp [Array.getElem?_eq_none h] at h4
theorem Own.free {w : World} {base g n c : Nat} {xs : List Int} (h : Own w base (.slice (some ⟨g, 0, none⟩) n c) n xs) (j : Nat) : w.frozen? ⟨g, j, none⟩ = false := by
  obtain ⟨h1, ⟨h2, -⟩ | ⟨g', cap, cur, h2, h3, h4, h5⟩⟩ := h
  · cases h2
  · simp only [Value.slice.injEq, Option.some.injEq, Addr.mk.injEq, and_true, true_and] at h2
    obtain ⟨rfl, rfl⟩ := h2
    simp [World.frozen?, h4]
theorem Own.cell {w : World} {base g n c : Nat} {xs : List Int} (h : Own w base (.slice (some ⟨g, 0, none⟩) n c) n xs) (j : Nat) (hj : j < n) : w.cell? ⟨g, j, none⟩ = some (.int .u8 (xs[j]?.getD 0)) := by
  obtain ⟨h1, h2⟩ := h
  have hl : xs.length = n := by simpa using h1
  rcases h2 with ⟨h3, -⟩ | ⟨g', cap, cur, h3, h4, h5, h6, h7, h8, h9⟩
  · cases h3
  · simp only [Value.slice.injEq, Option.some.injEq, Addr.mk.injEq, and_true, true_and] at h3
    obtain ⟨rfl, rfl⟩ := h3
    have hj' : j < xs.length := by omega
    unfold World.cell?
    simp only [h5]
    have e := congrArg (fun l => l[j]?) h9
    simp only [Nat.mul_one, List.getElem?_map, List.getElem?_eq_getElem hj', Option.map_some] at e
    rw [List.getElem?_take_of_lt hj, Array.getElem?_toList] at e
    simpa [List.getElem?_eq_getElem hj'] using e
theorem Own.stored {w : World} {base g n c : Nat} {xs : List Int} (h : Own w base (.slice (some ⟨g, 0, none⟩) n c) n xs) (j : Nat) (u : Int) : Own (w.setCell ⟨g, j, none⟩ (.int .u8 u)) base (.slice (some ⟨g, 0, none⟩) n c) n (xs.set j u) := by
  have := (World.ownsRow.stored h j (.int .u8 u)).1
  unfold Own
  rwa [List.map_set]
theorem Own.other {w : World} {base g n c : Nat} {xs : List Int} (h : Own w base (.slice (some ⟨g, 0, none⟩) n c) n xs) (p : Addr) (hp : p.block ≠ g) (u : Value) : Own (w.setCell p u) base (.slice (some ⟨g, 0, none⟩) n c) n xs := by
  obtain ⟨h1, ⟨h2, -⟩ | ⟨g', cap, cur, h2, h3, h4, h5⟩⟩ := h
  · cases h2
  · simp only [Value.slice.injEq, Option.some.injEq, Addr.mk.injEq, and_true, true_and] at h2
    obtain ⟨rfl, rfl⟩ := h2
    exact ⟨h1, .inr ⟨g, c, cur, rfl, h3, by rw [Below.heap_setCell _ _ _ _ (by omega)]; exact h4, h5⟩⟩
theorem Own.drew {w : World} {base : Nat} {v : Value} {n : Nat} {xs : List Int} (h : Own w base v n xs) : Own w.drew base v n xs := h
/-- A row of the call's own stays where no block from 'base' on is changed. -/
theorem Own.far {w w' : World} {base : Nat} {v : Value} {n : Nat} {xs : List Int} (h : Own w base v n xs) (hb : ∀ g, base ≤ g → w'.heap[g]? = w.heap[g]?) : Own w' base v n xs := by
  obtain ⟨h1, h2 | ⟨g, cap, cur, h3, h4, h5, h6⟩⟩ := h
  · exact ⟨h1, .inl h2⟩
  · exact ⟨h1, .inr ⟨g, cap, cur, h3, h4, by rw [hb g h4]; exact h5, h6⟩⟩
def numOf : Option Value → Int
  | some (.int _ z) => z
  | _ => 0
theorem Own.empty (w : World) : Own (w.alloc (.cells #[] 5)) w.heap.size (.slice (some ⟨w.heap.size, 0, none⟩) 0 0) 0 [] :=
  ⟨rfl, .inr ⟨w.heap.size, 0, #[], rfl, Nat.le_refl _, by show (w.heap.push _)[w.heap.size]? = _; simp, Nat.le_refl _, by unfold maxLen; omega, rfl, rfl⟩⟩

/-! ### Bytes as text -/
theorem text_run (w : World) (a : Option Addr) (n c : Nat) (xs : List Int) (H : Bytes w a n xs) : (convert 22 9 (.slice a n c)).run Tryz.prog w = .ok (.string (strOfNums xs)) w := by
  obtain ⟨h1, h2, h3, h4⟩ := H
  rcases h4 with rfl | ⟨b, off, rfl, hc⟩
  · obtain rfl : xs = [] := List.eq_nil_of_length_eq_zero h1
    cases a with
    | none => exact run_convert_bytes_nil (P := Tryz.prog) w 22 5 Tryz.underlying22 Tryz.underlying5 0 c 9 Tryz.underlying9
    | some x =>
      rw [run_convert_bytes_string w 22 9 5 _ 0 c Tryz.underlying22 Tryz.underlying5 Tryz.underlying9, run_bytesToString w x 0 c [] (by simpa using run_loadCells_list (P := Tryz.prog) w x [] (by simp))]
      rfl
  · exact run_convert_bytes_arg (P := Tryz.prog) w 22 5 Tryz.underlying22 Tryz.underlying5 b off n c xs h1 (fun i hi => by rw [hc i hi, List.getD_eq_getElem?_getD]) 9 Tryz.underlying9
theorem run_max2 {P : Program} (ts : Array TypeId) (t : TypeId) (k k1 : IntKind) (x y : Int) (w : World) : (Builtin.max_ ts t #[.int k x, .int k1 y]).run P w = .ok (.int k (max x y)) w := by
  have e : ∀ p q : Int, (if p < q then q else p) = max p q := fun p q => by split <;> omega
  simp [Builtin.max_, Builtin.max2, e]
theorem run_min4 {P : Program} (ts : Array TypeId) (t : TypeId) (k k1 k2 k3 : IntKind) (x y z u : Int) (w : World) : (Builtin.min_ ts t #[.int k x, .int k1 y, .int k2 z, .int k3 u]).run P w = .ok (.int k (min (min (min x y) z) u)) w := by
  have e : ∀ p q : Int, (if q < p then q else p) = min p q := fun p q => by split <;> omega
  simp [Builtin.min_, Builtin.min2, e]
/-! ### A new slice of noughts -/
def Zs (k : Nat) : Array Value := ((List.replicate k (0 : Int)).map (Value.int .u8)).toArray
theorem make_zs (k : Nat) (hk : k ≤ 281474976710656) (w : World) : (Instr.makeSlice 22 (.int .i64 (k : Int)) (.int .i64 (k : Int))).run Tryz.prog w = .ok (.slice (some ⟨w.heap.size, 0, none⟩) k k) (w.alloc (.cells (Zs k) 5)) := by
  obtain ⟨i, hi, hz0, hz1, hz2⟩ := info_parts u8info
  rw [run_make (P := Tryz.prog) w 22 5 i (.int .u8 0) Tryz.underlying22 hi hz0 .i64 .i64 k k (by omega) (Int.le_refl _) (by rw [hz2]; omega) (by omega), hz1]
  have e : madeCells (Value.int .u8 0).cells ((k : Int).toNat * 1) = Zs k := by
    apply Array.toList_inj.1
    rw [show (Value.int .u8 0).cells = #[Value.int .u8 0] from rfl, toList_madeCells_one]
    simp [Zs]
  rw [e]
  rfl
theorem Bytes.zeros (w : World) (g : Nat) (hg : g = w.heap.size) (k : Nat) (hk : k ≤ 9223372036854775807) (fz : Nat × Nat) : Bytes (w.alloc (.cells (Zs k) 5 fz)) (some ⟨g, 0, none⟩) k (List.replicate k 0) :=
  Bytes.lit w g hg (List.replicate k 0) 5 fz k (by simp) hk (fun x hx => by rw [(List.mem_replicate.1 hx).2]; omega)
end Go.Proofs.YtglgchjkonjpiaaGreatDoor
/-! A slice of bytes of the call's own, anywhere in its block; append of bytes and of texts. -/
namespace Go.Proofs.YtglgchjkonjpiaaGreatDoor
open Go.RowKit
set_option linter.unusedVariables false
def U8 (xs : List Int) : List Value := xs.map (Value.int .u8)
theorem U8_append (xs ys : List Int) : U8 (xs ++ ys) = U8 xs ++ U8 ys := List.map_append ..
theorem U8_length (xs : List Int) : (U8 xs).length = xs.length := List.length_map ..
theorem U8_one (xs : List Int) : ∀ u ∈ U8 xs, u.oneCell' = true := fun u hu => by
  obtain ⟨y, -, rfl⟩ := List.mem_map.1 hu; rfl
/-- A slice of bytes in the call's own memory, anywhere in its block. -/
def Mid (w : World) (base : Nat) (v : Value) (n : Nat) (xs : List Int) : Prop :=
  xs.length = n ∧ ((v = .slice none 0 0 ∧ n = 0) ∨
    ∃ g o cap, v = .slice (some ⟨g, o, none⟩) n cap ∧ base ≤ g ∧ g < w.heap.size ∧ n ≤ cap ∧ cap ≤ 9223372036854775807 ∧ w.rangeAt g o (U8 xs) ∧ w.there g o cap)
theorem Mid.nil (w : World) (base : Nat) : Mid w base (.slice none 0 0) 0 [] := ⟨rfl, .inl ⟨rfl, rfl⟩⟩
theorem rangeAt_block {w w' : World} {g o : Nat} {cs : List Value} (h : w.rangeAt g o cs) (hb : w'.heap[g]? = w.heap[g]?) : w'.rangeAt g o cs := fun j v hv => by
  rw [World.cell?_of_block (w := w) (w' := w') (a := ⟨g, o + j, none⟩) hb]; exact h j v hv
theorem there_block {w w' : World} {g o n : Nat} (h : w.there g o n) (hb : w'.heap[g]? = w.heap[g]?) : w'.there g o n := fun j hj => by
  rw [World.cell?_of_block (w := w) (w' := w') (a := ⟨g, o + j, none⟩) hb, World.frozen?_of_block (w := w) (w' := w') (a := ⟨g, o + j, none⟩) hb]; exact h j hj
theorem Mid.kept {w w' : World} {base : Nat} {v : Value} {n : Nat} {xs : List Int} {row : Option Nat} (h : Mid w base v n xs) (hg : w.grownBy w' row) (hne : v.ownBlock = none ∨ v.ownBlock ≠ row) : Mid w' base v n xs := by
  obtain ⟨h1, h2 | ⟨g, o, cap, rfl, hb, hlt, hn, hc, hr, ht⟩⟩ := h
  · exact ⟨h1, .inl h2⟩
  · have hbl : w'.heap[g]? = w.heap[g]? := hg.block g hlt (by
      rcases hne with h | h
      · cases h
      · exact h)
    exact ⟨h1, .inr ⟨g, o, cap, rfl, hb, Nat.lt_of_lt_of_le hlt hg.size, hn, hc, rangeAt_block hr hbl, there_block ht hbl⟩⟩
theorem Mid.below {w w' : World} {base : Nat} {v : Value} {n : Nat} {xs : List Int} (h : Mid w base v n xs) (hb : Below w.heap.size w w') : Mid w' base v n xs :=
  h.kept (row := none) ⟨hb.os, hb.tape, hb.output, hb.size, fun k hk _ => hb.block k hk⟩ (by
    cases hv : v.ownBlock with
    | none => exact .inl rfl
    | some k => exact .inr (by simp))
theorem Mid.lower {w : World} {base base' : Nat} {v : Value} {n : Nat} {xs : List Int} (h : Mid w base v n xs) (hb : base' ≤ base) : Mid w base' v n xs := by
  obtain ⟨h1, h2 | ⟨g, o, cap, h3, h4, h5⟩⟩ := h
  · exact ⟨h1, .inl h2⟩
  · exact ⟨h1, .inr ⟨g, o, cap, h3, Nat.le_trans hb h4, h5⟩⟩
theorem Mid.shape {w : World} {base : Nat} {v : Value} {n : Nat} {xs : List Int} (h : Mid w base v n xs) : ∃ a c, v = .slice a n c ∧ n ≤ c ∧ (a = none → c = 0) ∧ c ≤ 9223372036854775807 := by
  obtain ⟨h1, ⟨rfl, rfl⟩ | ⟨g, o, cap, rfl, hb, hlt, hn, hc, hr, ht⟩⟩ := h
  · exact ⟨none, 0, rfl, Nat.le_refl _, fun _ => rfl, by omega⟩
  · exact ⟨_, cap, rfl, hn, fun h => (by cases h), hc⟩
theorem Mid.bytes {w : World} {base : Nat} {a : Option Addr} {n c : Nat} {xs : List Int} (h : Mid w base (.slice a n c) n xs) (hx : ∀ j : Nat, 0 ≤ xs[j]?.getD 0 ∧ xs[j]?.getD 0 ≤ 255) : Bytes w a n xs := by
  obtain ⟨h1, ⟨h2, rfl⟩ | ⟨g, o, cap, h2, hb, hlt, hn, hc, hr, ht⟩⟩ := h
  · exact ⟨h1, by omega, hx, .inl rfl⟩
  · simp only [Value.slice.injEq] at h2
    obtain ⟨rfl, -, rfl⟩ := h2
    refine ⟨h1, by omega, hx, .inr ⟨g, o, rfl, fun j hj => hr j _ ?_⟩⟩
    unfold U8
    rw [List.getElem?_map, List.getElem?_eq_getElem (by omega)]
    rfl
theorem Mid.off {w : World} {base : Nat} {v : Value} {n : Nat} {xs : List Int} (h : Mid w base v n xs) (hbase : base ≤ w.heap.size) {w' : World} (hg : w.grownBy w' v.ownBlock) : Below base w w' := by
  refine (Below.refl base w).grown hg hbase fun k hk => ?_
  obtain ⟨h1, ⟨rfl, rfl⟩ | ⟨g, o, cap, rfl, hb, -⟩⟩ := h
  · cases hk
  · simp only [Value.ownBlock, Option.some.injEq] at hk; omega
theorem grownBy_setCells (w : World) (g o : Nat) (vs : List Value) : w.grownBy (w.setCells g o vs) (some g) := by
  induction vs generalizing o w with
  | nil => exact ⟨rfl, rfl, rfl, Nat.le_refl _, fun _ _ _ => rfl⟩
  | cons v r ih =>
    have h1 : w.grownBy (w.setCell ⟨g, o, none⟩ v) (some g) := by
      refine ⟨rfl, rfl, rfl, ?_, fun k hk hne => ?_⟩
      · rw [World.size_setCell]; exact Nat.le_refl _
      · exact Below.heap_setCell w _ v k (fun e => hne (by rw [e]))
    have h2 := ih (w.setCell ⟨g, o, none⟩ v) (o + 1)
    exact ⟨h2.os.trans h1.os, h2.tape.trans h1.tape, h2.output.trans h1.output, Nat.le_trans h1.size h2.size, fun k hk hne => (h2.block k (Nat.lt_of_lt_of_le hk h1.size) hne).trans (h1.block k hk hne)⟩
theorem rangeAt_both {w : World} {g o : Nat} {us vs : List Value} (h1 : w.rangeAt g o us) (h2 : w.rangeAt g (o + us.length) vs) : w.rangeAt g o (us ++ vs) := fun j v hv => by
  by_cases hj : j < us.length
  · rw [List.getElem?_append_left hj] at hv; exact h1 j v hv
  · rw [List.getElem?_append_right (by omega)] at hv
    have := h2 (j - us.length) v hv
    rwa [show o + us.length + (j - us.length) = o + j by omega] at this
/-- append(v, x...), v the call's own. -/
theorem mid_append (w : World) (ty tx : TypeId) (base : Nat) (v : Value) (n : Nat) (xs : List Int) (h : Mid w base v n xs) (x : Value) (m : Nat) (ys : List Int) (hs : Src Tryz.prog 1 tx x m (U8 ys) w)
    (hsum : n + m ≤ 70368744177664) (hbase : base ≤ w.heap.size) :
    ∃ v' w', (Builtin.append_ #[22, tx] ty #[v, x]).run Tryz.prog w = .ok v' w' ∧ Mid w' base v' (n + m) (xs ++ ys) ∧ w.grownBy w' v.ownBlock ∧ (v'.ownBlock = v.ownBlock ∨ v'.ownBlock = some w.heap.size) := by
  obtain ⟨i, hi, hz0, hz1, hz2⟩ := info_parts u8info
  have hm : ys.length = m := by have := hs.newsLen; rw [U8_length] at this; omega
  have grow : ∀ (a : Option Addr) (cap : Nat), v = .slice a n cap → cap < n + m → (Builtin.firstCells 1 n (.slice a n cap)).run Tryz.prog w.drew = .ok (U8 xs).toArray w.drew →
      ∃ v' w', (Builtin.append_ #[22, tx] ty #[v, x]).run Tryz.prog w = .ok v' w' ∧ Mid w' base v' (n + m) (xs ++ ys) ∧ w.grownBy w' v.ownBlock ∧ (v'.ownBlock = v.ownBlock ∨ v'.ownBlock = some w.heap.size) := by
    intro a cap hv hlt hold
    subst hv
    have hxl : xs.length = n := h.1
    have hr := run_append_grow_src (P := Tryz.prog) w 22 tx ty 5 i (.int .u8 0) Tryz.underlying22 hi hz0 a n cap (U8 xs) (by rw [hz1]; exact hold) x m (U8 ys) (by rw [hz1]; exact hs) hlt (by omega) (by rw [hz2]; exact growslice_fits hlt (by omega))
    have hge := grownCap_ge w (n + m) cap 5
    have hcm : grownCap w (n + m) cap 5 ≤ maxLen := grownCap_le_maxLen w (n + m) cap 5 (by unfold maxLen; omega)
    have hcm2 : grownCap w (n + m) cap 5 ≤ 9223372036854775807 := by unfold maxLen at hcm; omega
    generalize grownCap w (n + m) cap 5 = gc at *
    have hnew := heap_alloc_new w.drew (.cells ((U8 xs ++ U8 ys).toArray ++ Builtin.zeroCells (Value.int .u8 0).cells (gc - (n + m))) 5)
    have hz1' : (Value.int IntKind.u8 0).cells.size = 1 := rfl
    have hsz : ((U8 xs ++ U8 ys).toArray ++ Builtin.zeroCells (Value.int .u8 0).cells (gc - (n + m))).size = gc := by
      simp only [Array.size_append, List.size_toArray, size_zeroCells, hz1', List.length_append, U8_length]
      omega
    have hold2 : ∀ k, k < w.heap.size → (w.drew.alloc (.cells ((U8 xs ++ U8 ys).toArray ++ Builtin.zeroCells (Value.int .u8 0).cells (gc - (n + m))) 5)).heap[k]? = w.heap[k]? := fun k hk => heap_alloc_old w.drew _ hk
    have hget : ∀ (j : Nat) (u : Value), (U8 (xs ++ ys))[j]? = some u → ((U8 xs ++ U8 ys).toArray ++ Builtin.zeroCells (Value.int .u8 0).cells (gc - (n + m)))[j]? = some u := fun j u hu => by
      rw [U8_append] at hu
      have hj : j < (U8 xs ++ U8 ys).toArray.size := by
        rw [List.size_toArray]
        rcases Nat.lt_or_ge j (U8 xs ++ U8 ys).length with h | h
        · exact h
        · rw [List.getElem?_eq_none h] at hu; cases hu
      rw [Array.getElem?_append_left hj]
      simpa using hu
    have hsize : w.heap.size < (w.drew.alloc (.cells ((U8 xs ++ U8 ys).toArray ++ Builtin.zeroCells (Value.int .u8 0).cells (gc - (n + m))) 5)).heap.size := by simp
    have hg1 : w.grownBy (w.drew.alloc (.cells ((U8 xs ++ U8 ys).toArray ++ Builtin.zeroCells (Value.int .u8 0).cells (gc - (n + m))) 5)) (Value.slice a n cap).ownBlock := ⟨rfl, rfl, rfl, by simp, fun k hk _ => hold2 k hk⟩
    have hnew2 : (w.drew.alloc (.cells ((U8 xs ++ U8 ys).toArray ++ Builtin.zeroCells (Value.int .u8 0).cells (gc - (n + m))) 5)).heap[w.heap.size]? = some (.cells ((U8 xs ++ U8 ys).toArray ++ Builtin.zeroCells (Value.int .u8 0).cells (gc - (n + m))) 5 (0, 0)) := hnew
    clear hnew hold2
    generalize w.drew.alloc (.cells ((U8 xs ++ U8 ys).toArray ++ Builtin.zeroCells (Value.int .u8 0).cells (gc - (n + m))) 5) = W1 at *
    generalize (U8 xs ++ U8 ys).toArray ++ Builtin.zeroCells (Value.int .u8 0).cells (gc - (n + m)) = arr at *
    have hcell : ∀ k, W1.cell? ⟨w.heap.size, k, none⟩ = arr[k]? := fun k => by simp [World.cell?, hnew2]
    have hfro : ∀ k, W1.frozen? ⟨w.heap.size, k, none⟩ = false := fun k => by simp [World.frozen?, hnew2]
    refine ⟨_, _, hr, ⟨by rw [List.length_append]; omega, .inr ⟨w.heap.size, 0, gc, rfl, hbase, hsize, hge, hcm2, ?_, ?_⟩⟩, hg1, .inr rfl⟩
    · intro j u hu
      rw [Nat.zero_add, hcell]
      exact hget j u hu
    · intro j hj
      rw [Nat.zero_add, hcell, hfro]
      exact ⟨by rw [Array.getElem?_eq_getElem (by rw [hsz]; exact hj)]; rfl, rfl⟩
  have hxl : xs.length = n := h.1
  rcases h.2 with ⟨rfl, h0⟩ | ⟨g, o, cap, rfl, hb, hlt, hn, hc, hr, ht⟩
  · subst h0
    obtain rfl : xs = [] := List.eq_nil_of_length_eq_zero hxl
    by_cases hm0 : m = 0
    · subst hm0
      obtain rfl : ys = [] := List.eq_nil_of_length_eq_zero hm
      refine ⟨.slice none 0 0, w, ?_, Mid.nil w base, ⟨rfl, rfl, rfl, Nat.le_refl _, fun _ _ _ => rfl⟩, .inl rfl⟩
      have h2 := hs.cells
      have h3 := hs.len
      rcases hs.kind with ⟨e', hk⟩ | hk <;> simp [Builtin.append_, run_underlying Tryz.underlying22, run_underlying hk, sizeOf, typeInfo, hi, hz1, h3, h2, U8]
    · exact grow none 0 rfl (by omega) (run_firstCells_none w.drew 1 0 0 0)
  · by_cases hroom : n + m ≤ cap
    · have hra := run_append_room_src (P := Tryz.prog) w 22 tx ty 5 i Tryz.underlying22 hi g o n cap x m (U8 ys) (by rw [hz1]; exact hs) hroom
        (fun j hj => by rw [U8_length] at hj; rw [hz1, Nat.mul_one, Nat.add_assoc]; exact (ht (n + j) (by omega)).1)
        (fun j hj => by rw [U8_length] at hj; rw [hz1, Nat.mul_one, Nat.add_assoc]; exact (ht (n + j) (by omega)).2)
      rw [hz1, Nat.mul_one] at hra
      have hth : w.there g (o + n) (U8 ys).length := fun j hj => by rw [U8_length] at hj; rw [Nat.add_assoc]; exact ht (n + j) (by omega)
      have hg := grownBy_setCells w g (o + n) (U8 ys)
      refine ⟨_, _, hra, ⟨by rw [List.length_append]; omega, .inr ⟨g, o, cap, rfl, hb, Nat.lt_of_lt_of_le hlt hg.size, hroom, hc, ?_, World.there_setCells ht g (o + n) (U8 ys)⟩⟩, hg, .inl rfl⟩
      rw [U8_append]
      refine rangeAt_both (World.rangeAt_setCells_apart hr g (o + n) (U8 ys) (.inr (.inl (by rw [U8_length]; omega)))) ?_
      rw [U8_length, hxl]
      exact World.rangeAt_setCells_same w g (o + n) (U8 ys) hth
    · refine grow (some ⟨g, o, none⟩) cap rfl (by omega) (run_firstCells_some w.drew 1 n ⟨g, o, none⟩ n cap (U8 xs) (by rw [U8_length]; omega) fun j u hu => ?_)
      rw [Addr.add_mid]
      have := hr j u hu
      simpa using this
end Go.Proofs.YtglgchjkonjpiaaGreatDoor
/-! Parts of a slice of bytes. -/
namespace Go.Proofs.YtglgchjkonjpiaaGreatDoor
open Go.RowKit
set_option linter.unusedVariables false
/-- The address behind 'a[l:]'. -/
def subA (a : Option Addr) (cap l : Nat) : Option Addr := if cap = l then a else a.map (·.add l)
theorem slice_sub (a : Option Addr) (m cap lo hi : Nat) (h1 : lo ≤ hi) (h2 : hi ≤ cap) (w : World) :
    (Instr.sliceAt 22 (.slice a m cap) (some (.int .i64 (lo : Int))) (some (.int .i64 (hi : Int))) none).run Tryz.prog w = .ok (.slice (subA a cap lo) (hi - lo) (cap - lo)) w := by
  have hsz : ∀ W : World, (sizeOf (Tryz.prog.elem 22)).run Tryz.prog W = .ok 1 W := fun W => by kernel_rfl
  rw [run_sliceAt_slice w 22 _ _ _ _ (by kernel_rfl), run_slice_lh w 22 a m cap (by kernel_rfl) .i64 .i64 (lo : Int) (hi : Int) (by omega) (by omega) (by omega), hsz]
  simp [Result.andThen_ok, sliced, subA]
theorem slice_from (a : Option Addr) (m cap lo : Nat) (h1 : lo ≤ m) (h2 : m ≤ cap) (w : World) :
    (Instr.sliceAt 22 (.slice a m cap) (some (.int .i64 (lo : Int))) none none).run Tryz.prog w = .ok (.slice (subA a cap lo) (m - lo) (cap - lo)) w := by
  have hsz : ∀ W : World, (sizeOf (Tryz.prog.elem 22)).run Tryz.prog W = .ok 1 W := fun W => by kernel_rfl
  rw [run_sliceAt_slice w 22 _ _ _ _ (by kernel_rfl), run_slice_l w 22 a m cap (by kernel_rfl) .i64 (lo : Int) (by omega) (by omega), hsz]
  simp [Result.andThen_ok, sliced, subA]
theorem slice_to (a : Option Addr) (m cap hi : Nat) (h2 : hi ≤ cap) (w : World) :
    (Instr.sliceAt 22 (.slice a m cap) none (some (.int .i64 (hi : Int))) none).run Tryz.prog w = .ok (.slice a hi cap) w := by
  have hsz : ∀ W : World, (sizeOf (Tryz.prog.elem 22)).run Tryz.prog W = .ok 1 W := fun W => by kernel_rfl
  have h0 : ∀ x : Addr, x.add 0 = x := fun x => by unfold Addr.add; simp
  rw [run_sliceAt_slice w 22 _ _ _ _ (by kernel_rfl), run_slice_h w 22 a m cap (by kernel_rfl) .i64 (hi : Int) (by omega) (by omega), hsz]
  simp [Result.andThen_ok, sliced, h0]
def sizeV : Value → Nat
  | .slice _ n _ => n
  | _ => 0
theorem Bytes.part {w : World} {a : Option Addr} {m : Nat} {xs : List Int} (h : Bytes w a m xs) (cap lo hi : Nat) (h1 : lo ≤ hi) (h2 : hi ≤ m) (h3 : m ≤ cap) : Bytes w (subA a cap lo) (hi - lo) ((xs.drop lo).take (hi - lo)) := by
  by_cases h0 : hi = lo
  · subst h0
    rw [Nat.sub_self, List.take_zero]
    exact ⟨rfl, by omega, by simp, .inl rfl⟩
  · have hm : m ≠ 0 := by omega
    obtain ⟨b, off, rfl⟩ : ∃ b off, a = some ⟨b, off, none⟩ := by
      rcases h.2.2.2 with h | ⟨b, off, rfl, -⟩
      · exact absurd h hm
      · exact ⟨b, off, rfl⟩
    have e : subA (some ⟨b, off, none⟩) cap lo = some ⟨b, off + lo, none⟩ := by
      unfold subA
      rw [if_neg (by omega)]
      show some (Addr.add _ _) = _
      unfold Addr.add
      split <;> simp_all
    rw [e]
    exact h.sub lo (hi - lo) (by omega)
theorem ownsRow_below {w w' : World} {base : Nat} {e : TypeId} {size : Nat} {v : Value} {n : Nat} {xs : List Value} (h : w.ownsRow base e size v n xs) (hb : Below w.heap.size w w') : w'.ownsRow base e size v n xs := by
  obtain ⟨h1, h2 | ⟨g, cap, cur, h3, h4, h5, h6⟩⟩ := h
  · exact ⟨h1, .inl h2⟩
  · refine ⟨h1, .inr ⟨g, cap, cur, h3, h4, ?_, h6⟩⟩
    rw [hb.block g (by
      rcases Nat.lt_or_ge g w.heap.size with h | h
      · exact h
      · simp [Array.getElem?_eq_none h] at h5)]
    exact h5
theorem ownsRow_kept {w w' : World} {base : Nat} {e : TypeId} {size : Nat} {v : Value} {n : Nat} {xs : List Value} (h : w.ownsRow base e size v n xs) (hbase : base ≤ w.heap.size) (hg : w.grownBy w' v.ownBlock) : Below base w w' := by
  refine (Below.refl base w).grown hg hbase fun k hk => ?_
  obtain ⟨h1, ⟨rfl, rfl⟩ | ⟨g, cap, cur, rfl, h4, h5⟩⟩ := h
  · cases hk
  · simp only [Value.ownBlock, Option.some.injEq] at hk; omega
/-- A row of parts that the call owns, read. -/
theorem subA_nil {a : Option Addr} {cap l : Nat} (h : a = none → cap = 0) : subA a cap l = none → cap - l = 0 := by
  intro e
  unfold subA at e
  split at e
  · omega
  · cases a with
    | none => have := h rfl; omega
    | some x => cases e
end Go.Proofs.YtglgchjkonjpiaaGreatDoor
/-! Packed bytes, plainly: bits as one number, codes, signs, blocks. -/
namespace Go.Proofs.YtglgchjkonjpiaaGreatDoor
set_option linter.unusedVariables false
namespace Plain
/-- Bytes as one number, the first one the lowest. -/
def streamN : List Int → Nat
  | [] => 0
  | b :: t => b.toNat + 256 * streamN t
/-- n bits from the p-th one on, of L; 3: they end. -/
def num (N L p n : Nat) : Except Nat (Nat × Nat) := if p + n ≤ L then .ok (N / 2 ^ p % 2 ^ n, p + n) else .error 3
def rev : Nat → Nat → Nat
  | 0, _ => 0
  | n + 1, x => x % 2 * 2 ^ n + rev n (x / 2)
def codeN (N L p n : Nat) : Except Nat (Nat × Nat) := match num N L p n with
  | .error e => .error e
  | .ok (x, q) => .ok (rev n x, q)
def fixedSignN (N L p : Nat) : Except Nat (Nat × Nat) := match codeN N L p 7 with
  | .error e => .error e
  | .ok (x, q) => if x ≤ 23 then .ok (256 + x, q) else match num N L q 1 with
    | .error e => .error e
    | .ok (b, r) => if 2 * x + b ≤ 191 then .ok (2 * x + b - 48, r) else if 2 * x + b ≤ 199 then .ok (280 + (2 * x + b) - 192, r) else match num N L r 1 with
      | .error e => .error e
      | .ok (c, s) => .ok (144 + (2 * (2 * x + b) + c) - 400, s)
def fixedDistN (N L p : Nat) : Except Nat (Nat × Nat) := codeN N L p 5
/-- A code: how many signs have each length; the signs by length; the longest one. -/
structure CodeS where
  cnt : List Nat
  sg : List Nat
  longest : Nat
def signGo (N L : Nat) (c : CodeS) : Nat → Nat → Nat → Nat → Nat → Nat → Except Nat (Nat × Nat)
  | 0, _, _, _, _, _ => .error 4
  | f + 1, l, p, x, first, ahead => match num N L p 1 with
    | .error e => .error e
    | .ok (b, q) => if x + b < first + c.cnt.getD l 0 then .ok (c.sg.getD (ahead + (x + b) - first) 0, q)
      else signGo N L c f (l + 1) q (2 * (x + b)) (2 * (first + c.cnt.getD l 0)) (ahead + c.cnt.getD l 0)
def signN (N L : Nat) (c : CodeS) (p : Nat) : Except Nat (Nat × Nat) := signGo N L c c.longest 1 p 0 0 0
def lengthN (N L p s : Nat) : Except Nat (Nat × Nat) :=
  if s ≤ 264 then .ok (s - 254, p) else if s = 285 then .ok (258, p) else match num N L p ((s - 261) / 4) with
    | .error e => .error e
    | .ok (x, q) => .ok (3 + (4 + (s - 261) % 4) * 2 ^ ((s - 261) / 4) + x, q)
def distN (N L p s : Nat) : Except Nat (Nat × Nat) :=
  if 30 ≤ s then .error 4 else if s ≤ 3 then .ok (s + 1, p) else match num N L p ((s - 2) / 2) with
    | .error e => .error e
    | .ok (x, q) => .ok (1 + (2 + s % 2) * 2 ^ ((s - 2) / 2) + x, q)
def giveN (most : Nat) (made : List Int) (x : Int) : Except Nat (List Int) := if most ≤ made.length then .error 2 else .ok (made ++ [x])
def againGo (most d : Nat) : Nat → List Int → Except Nat (List Int)
  | 0, made => .ok made
  | k + 1, made => match giveN most made (made[made.length - d]?.getD 0) with
    | .error e => .error e
    | .ok m => againGo most d k m
def againN (most : Nat) (made : List Int) (len d : Nat) : Except Nat (List Int) := if made.length < d then .error 4 else againGo most d len made
/-- The signs of a block; 9: too many of them (never). -/
def signsGo (N L most : Nat) (nx fr : Nat → Except Nat (Nat × Nat)) : Nat → Nat → List Int → Except Nat (Nat × List Int)
  | 0, _, _ => .error 9
  | f + 1, p, made => match nx p with
    | .error e => .error e
    | .ok (s, q) =>
      if s < 256 then match giveN most made (s : Int) with
        | .error e => .error e
        | .ok m => signsGo N L most nx fr f q m
      else if s = 256 then .ok (q, made)
      else if 286 ≤ s then .error 4
      else match lengthN N L q s with
        | .error e => .error e
        | .ok (len, r) => match fr r with
          | .error e => .error e
          | .ok (t, u) => match distN N L u t with
            | .error e => .error e
            | .ok (d, v) => match againN most made len d with
              | .error e => .error e
              | .ok m => signsGo N L most nx fr f v m
def signsN (N L most : Nat) (nx fr : Nat → Except Nat (Nat × Nat)) (p : Nat) (made : List Int) : Except Nat (Nat × List Int) := signsGo N L most nx fr (L + 1 - p) p made
def storedN (bs : List Int) (N L most p : Nat) (made : List Int) : Except Nat (Nat × List Int) :=
  match num N L (8 * ((p + 7) / 8)) 16 with
  | .error e => .error e
  | .ok (n, q) => match num N L q 16 with
    | .error e => .error e
    | .ok (m, r) =>
      if m + n ≠ 65535 then .error 4
      else if most - made.length < min n (bs.length - r / 8) then .error 2
      else if bs.length - r / 8 < n then .error 3
      else .ok (r + 8 * n, made ++ (bs.drop (r / 8)).take n)
/-- A code's numbers, of its signs' lengths. -/
def cntOf (ls : List Nat) : List Nat := (List.range 16).map fun n => if n = 0 then 0 else ls.count n
def idxOf (ls : List Nat) (n : Nat) : List Nat := (List.range ls.length).filter fun i => ls.getD i 0 == n
def sgOf (ls : List Nat) : List Nat := (List.range 15).flatMap fun n => idxOf ls (n + 1)
def codeOfN (ls : List Nat) : CodeS := ⟨cntOf ls, sgOf ls, ls.foldl max 0⟩
def roomGo (cnt : List Nat) : Nat → Nat → Int → Int
  | 0, _, r => r
  | f + 1, n, r => if 2 * r - (cnt.getD n 0 : Int) < 0 then -1 else roomGo cnt f (n + 1) (2 * r - (cnt.getD n 0 : Int))
def goodN (c : CodeS) : Bool := let r := roomGo c.cnt 15 1 1; decide (0 ≤ r) && (r == 0 || (c.sg.length == 1 && c.longest == 1))
def howManyN (N L p n least most : Nat) : Except Nat (Nat × Nat) := match num N L p n with
  | .error e => .error e
  | .ok (x, q) => if most < x + least then .error 4 else .ok (x + least, q)
def orderN : List Nat := [16, 17, 18, 0, 8, 7, 9, 6, 10, 5, 11, 4, 12, 3, 13, 2, 14, 1, 15]
def toldGo (N L : Nat) : List Nat → Nat → List Nat → Except Nat (Nat × List Nat)
  | [], p, ls => .ok (p, ls)
  | s :: t, p, ls => match num N L p 3 with
    | .error e => .error e
    | .ok (x, q) => toldGo N L t q (ls.set s x)
def codeOfLengthsN (N L p : Nat) : Except Nat (Nat × CodeS) := match num N L p 4 with
  | .error e => .error e
  | .ok (x, q) => match toldGo N L (orderN.take (x + 4)) q (List.replicate 19 0) with
    | .error e => .error e
    | .ok (r, ls) => if goodN (codeOfN ls) then .ok (r, codeOfN ls) else .error 4
/-- One sign of the lengths: the length, how many times, the place behind. -/
def oneLen (N L : Nat) (c : CodeS) (p : Nat) (ls : List Nat) : Except Nat (Nat × Nat × Nat) := match signN N L c p with
  | .error e => .error e
  | .ok (s, q) =>
    if s = 16 then (if ls = [] then .error 4 else match num N L q 2 with
      | .error e => .error e
      | .ok (x, r) => .ok (ls.getD (ls.length - 1) 0, 3 + x, r))
    else if s = 17 then (match num N L q 3 with
      | .error e => .error e
      | .ok (x, r) => .ok (0, 3 + x, r))
    else if s = 18 then (match num N L q 7 with
      | .error e => .error e
      | .ok (x, r) => .ok (0, 11 + x, r))
    else .ok (s, 1, q)
def lensGo (N L : Nat) (c : CodeS) (n : Nat) : Nat → Nat → List Nat → Except Nat (Nat × List Nat)
  | 0, _, _ => .error 9
  | f + 1, p, ls => if n ≤ ls.length then .ok (p, ls) else match oneLen N L c p ls with
    | .error e => .error e
    | .ok (len, times, q) => if n - ls.length < times then .error 4 else lensGo N L c n f q (ls ++ List.replicate times len)
def lensN (N L : Nat) (c : CodeS) (n p : Nat) : Except Nat (Nat × List Nat) := lensGo N L c n (L + 1 - p) p []
def ownCodesN (N L p : Nat) : Except Nat (Nat × CodeS × CodeS) := match howManyN N L p 5 257 286 with
  | .error e => .error e
  | .ok (n, q) => match howManyN N L q 5 1 30 with
    | .error e => .error e
    | .ok (m, r) => match codeOfLengthsN N L r with
      | .error e => .error e
      | .ok (s, c) => match lensN N L c (n + m) s with
        | .error e => .error e
        | .ok (t, ls) =>
          if ls.getD 256 0 = 0 ∨ goodN (codeOfN (ls.take n)) = false ∨ (goodN (codeOfN (ls.drop n)) = false ∧ (codeOfN (ls.drop n)).sg ≠ []) then .error 4
          else .ok (t, codeOfN (ls.take n), codeOfN (ls.drop n))
def blockN (bs : List Int) (N L most kind p : Nat) (made : List Int) : Except Nat (Nat × List Int) :=
  if kind = 0 then storedN bs N L most p made
  else if kind = 1 then signsN N L most (fixedSignN N L) (fixedDistN N L) p made
  else if kind = 2 then match ownCodesN N L p with
    | .error e => .error e
    | .ok (q, c, d) => signsN N L most (signN N L c) (signN N L d) q made
  else .error 4
def rawGo (bs : List Int) (N L most : Nat) : Nat → Nat → List Int → Except Nat (Nat × List Int)
  | 0, _, _ => .error 9
  | f + 1, p, made => match num N L p 1 with
    | .error e => .error e
    | .ok (last, q) => match num N L q 2 with
      | .error e => .error e
      | .ok (kind, r) => match blockN bs N L most kind r made with
        | .error e => .error e
        | .ok (s, m) => if last = 0 then rawGo bs N L most f s m else .ok (s, m)
/-- Raw: the error's number, the bytes, how many are taken. -/
def rawOf (bs : List Int) (most : Nat) : Except Nat (Nat × List Int) := rawGo bs (streamN bs) (8 * bs.length) most (8 * bs.length + 1) 0 []
/-! ### Bits -/
theorem stream_at : ∀ (bs : List Int), (∀ x ∈ bs, 0 ≤ x ∧ x ≤ 255) → ∀ i, streamN bs / 2 ^ (8 * i) % 256 = (bs[i]?.getD 0).toNat
  | [], h, i => by simp [streamN]
  | b :: t, h, 0 => by
    have := h b (by simp)
    simp only [streamN, Nat.mul_zero, Nat.pow_zero, Nat.div_one, List.getElem?_cons_zero, Option.getD_some]
    omega
  | b :: t, h, i + 1 => by
    have hb := h b (by simp)
    have ih := stream_at t (fun x hx => h x (by simp [hx])) i
    rw [streamN, show 8 * (i + 1) = 8 + 8 * i by omega, Nat.pow_add, ← Nat.div_div_eq_div_mul]
    have e : (b.toNat + 256 * streamN t) / 2 ^ 8 = streamN t := by
      simp only [Nat.reducePow]; omega
    rw [e, ih]; rfl
theorem bits_split (N p l k : Nat) : N / 2 ^ p % 2 ^ (l + k) = N / 2 ^ p % 2 ^ l + 2 ^ l * (N / 2 ^ (p + l) % 2 ^ k) := by
  rw [Nat.pow_add, Nat.mod_mul, Nat.pow_add, Nat.div_div_eq_div_mul]
theorem bits_div (N p n l : Nat) (h : n ≤ l) : N / 2 ^ p % 2 ^ l / 2 ^ n = N / 2 ^ (p + n) % 2 ^ (l - n) := by
  obtain ⟨k, rfl⟩ : ∃ k, l = n + k := ⟨l - n, by omega⟩
  have hp : 0 < 2 ^ n := Nat.two_pow_pos n
  rw [bits_split, show n + k - n = k by omega, Nat.add_mul_div_left _ _ hp, Nat.div_eq_of_lt (Nat.mod_lt _ hp), Nat.zero_add]
theorem bits_mod (N p n l : Nat) (h : n ≤ l) : N / 2 ^ p % 2 ^ l % 2 ^ n = N / 2 ^ p % 2 ^ n := Nat.mod_mod_of_dvd _ (Nat.pow_dvd_pow 2 h)
theorem bits_lt (N p n : Nat) : N / 2 ^ p % 2 ^ n < 2 ^ n := Nat.mod_lt _ (Nat.two_pow_pos n)
theorem num_ok {N L p n x q : Nat} (h : num N L p n = .ok (x, q)) : x < 2 ^ n ∧ q = p + n ∧ q ≤ L := by
  unfold num at h
  split at h
  · simp only [Except.ok.injEq, Prod.mk.injEq] at h
    obtain ⟨rfl, rfl⟩ := h
    exact ⟨bits_lt _ _ _, rfl, by assumption⟩
  · cases h
theorem num_err {N L p n e : Nat} (h : num N L p n = .error e) : e = 3 := by
  unfold num at h
  split at h
  · cases h
  · injection h with h; exact h.symm
theorem rev_lt : ∀ n x, rev n x < 2 ^ n
  | 0, x => by simp [rev]
  | n + 1, x => by
    have := rev_lt n (x / 2)
    have h2 : x % 2 = 0 ∨ x % 2 = 1 := by omega
    rw [rev, Nat.pow_succ]
    rcases h2 with h | h <;> rw [h] <;> omega
end Plain
end Go.Proofs.YtglgchjkonjpiaaGreatDoor
/-! The reader in memory: its block, its row; what a call leaves alone; what is thrown. -/
namespace Go.Proofs.YtglgchjkonjpiaaGreatDoor
open Go.RowKit Plain
set_option linter.unusedVariables false
/-- What is thrown. -/
def thrown (n : Nat) : Ending := .panicked [{ v := .iface 126 (.agg #[.int .i64 (n : Int)]), recovered := false }]
theorem with_any (n : Nat) (w : World) : Calls Tryz.prog 94 #[.int .i64 (n : Int)] w fun e w' => e = thrown n ∧ w = w' := by
  go_enter Tryz.func94, Tryz.ntmps94
  go_wp2_with fail
  exact ⟨rfl, rfl, rfl⟩
theorem cell_row0 (W : World) (b k : Nat) (cs : Array Value) (t : TypeId) (fz : Nat × Nat) (h : W.heap[b]? = some (.cells cs t fz)) : W.cell? ⟨b, k, none⟩ = cs[k]? := by simp [World.cell?, h]
theorem free_row0 (W : World) (b k : Nat) (cs : Array Value) (t : TypeId) (h : W.heap[b]? = some (.cells cs t (0, 0))) : W.frozen? ⟨b, k, none⟩ = false := by simp [World.frozen?, h]
theorem unhid {p : Prop} (h : p) : Hid p := h
/-- The reader's block. -/
def cellsO (ba : Option Addr) (bn bc : Nat) (at_ held left : Nat) (mv : Value) (most : Nat) : Array Value :=
  #[.slice ba bn bc, .int .i64 (at_ : Int), .int .u64 (held : Int), .int .i64 (left : Int), mv, .int .i64 (most : Int)]
/-- What a call may turn: the reader's block and its row. -/
structure Turn (Ob : Nat) (mv mv' : Value) (w w' : World) : Prop where
  os : w'.os = w.os
  tape : w'.tape = w.tape
  output : w'.output = w.output
  size : w.heap.size ≤ w'.heap.size
  block : ∀ k, k < w.heap.size → k ≠ Ob → mv.ownBlock ≠ some k → w'.heap[k]? = w.heap[k]?
  row : ∀ k, mv'.ownBlock = some k → mv.ownBlock = some k ∨ w.heap.size ≤ k
theorem Turn.refl (Ob : Nat) (mv : Value) (w : World) : Turn Ob mv mv w w := ⟨rfl, rfl, rfl, Nat.le_refl _, fun _ _ _ _ => rfl, fun k hk => .inl hk⟩
theorem Turn.trans {Ob : Nat} {m1 m2 m3 : Value} {w1 w2 w3 : World} (h1 : Turn Ob m1 m2 w1 w2) (h2 : Turn Ob m2 m3 w2 w3) : Turn Ob m1 m3 w1 w3 := by
  refine ⟨h2.os.trans h1.os, h2.tape.trans h1.tape, h2.output.trans h1.output, Nat.le_trans h1.size h2.size, fun k hk hO hm => ?_, fun k hk => ?_⟩
  · have hm2 : m2.ownBlock ≠ some k := fun e => by
      rcases h1.row k e with h | h
      · exact hm h
      · omega
    exact (h2.block k (Nat.lt_of_lt_of_le hk h1.size) hO hm2).trans (h1.block k hk hO hm)
  · rcases h2.row k hk with h | h
    · exact h1.row k h
    · exact .inr (Nat.le_trans h1.size h)
theorem Turn.of_below {Ob : Nat} {mv : Value} {w w' : World} (h : Below w.heap.size w w') : Turn Ob mv mv w w' := ⟨h.os, h.tape, h.output, h.size, fun k hk _ _ => h.block k hk, fun k hk => .inl hk⟩
theorem Turn.drew {Ob : Nat} {m1 m2 : Value} {w1 w2 : World} (h : Turn Ob m1 m2 w1 w2) : Turn Ob m1 m2 w1 w2.drew := ⟨h.os, h.tape, h.output, h.size, h.block, h.row⟩
theorem Turn.drewN {Ob : Nat} {m1 m2 : Value} {w1 w2 : World} (h : Turn Ob m1 m2 w1 w2) (n : Nat) : Turn Ob m1 m2 w1 (w2.drewN n) := ⟨h.os, h.tape, h.output, h.size, h.block, h.row⟩
theorem Turn.cell {Ob : Nat} {mv : Value} {w : World} (i : Nat) (v : Value) : Turn Ob mv mv w (w.setCell ⟨Ob, i, none⟩ v) :=
  ⟨rfl, rfl, rfl, by rw [World.size_setCell]; exact Nat.le_refl _, fun k _ hk _ => Below.heap_setCell w _ v k (by show k ≠ Ob; exact hk), fun k hk => .inl hk⟩
/-- The reader in memory, at the p-th bit, with what has been made. -/
def OutL (lim : Nat) (w0 : World) (Ob : Nat) (ba : Option Addr) (bn bc N most : Nat) (w : World) (p : Nat) (mv : Value) (made : List Int) : Prop :=
  ∃ at_ held left : Nat, w.heap[Ob]? = some (.cells (cellsO ba bn bc at_ held left mv most) 104 (0, 0)) ∧ p + left = 8 * at_ ∧ left < lim ∧ at_ ≤ bn ∧ held = N / 2 ^ p % 2 ^ left ∧
    Mid w w0.heap.size mv made.length made ∧ mv.ownBlock ≠ some Ob ∧ Below w0.heap.size w0 w ∧ w0.heap.size ≤ Ob ∧ made.length ≤ most ∧ ∀ x ∈ made, 0 ≤ x ∧ x ≤ 255
/-- What the bytes are. -/
structure SrcB (w0 : World) (ba : Option Addr) (bn bc N most : Nat) (bs : List Int) : Prop where
  bytes : Bytes w0 ba bn bs
  le : bn ≤ bc
  cap : bc ≤ 9223372036854775807
  nil : ba = none → bc = 0
  few : bn ≤ 1000000000
  most : most ≤ 1000000000
  num : N = streamN bs
theorem mem_of_getD {xs : List Int} {P : Int → Prop} (h : ∀ j : Nat, P (xs[j]?.getD 0)) : ∀ x ∈ xs, P x := fun x hx => by
  obtain ⟨j, hj, rfl⟩ := List.mem_iff_getElem.1 hx
  have := h j
  rwa [List.getElem?_eq_getElem hj] at this
theorem range_of_mem0 {xs : List Int} (h : ∀ x ∈ xs, 0 ≤ x ∧ x ≤ 255) (j : Nat) : 0 ≤ xs[j]?.getD 0 ∧ xs[j]?.getD 0 ≤ 255 := by
  by_cases hj : j < xs.length
  · rw [List.getElem?_eq_getElem hj]; exact h _ (List.getElem_mem hj)
  · rw [List.getElem?_eq_none (by omega)]; simp
theorem OutL.lt {lim : Nat} {w0 : World} {Ob : Nat} {ba : Option Addr} {bn bc N most : Nat} {w : World} {p : Nat} {mv : Value} {made : List Int} (h : OutL lim w0 Ob ba bn bc N most w p mv made) : Ob < w.heap.size := by
  obtain ⟨a, b, c, hh, -⟩ := h
  rcases Nat.lt_or_ge Ob w.heap.size with h | h
  · exact h
  · rw [Array.getElem?_eq_none h] at hh; cases hh
theorem OutL.below {lim : Nat} {w0 : World} {Ob : Nat} {ba : Option Addr} {bn bc N most : Nat} {w w' : World} {p : Nat} {mv : Value} {made : List Int} (h : OutL lim w0 Ob ba bn bc N most w p mv made) (hb : Below w.heap.size w w') : OutL lim w0 Ob ba bn bc N most w' p mv made := by
  have hlt := h.lt
  obtain ⟨a, hd, l, hh, h1, h2, h3, h4, hm, hO, hbel, h5⟩ := h
  exact ⟨a, hd, l, (hb.block Ob hlt).trans hh, h1, h2, h3, h4, hm.below hb, hO, hbel.trans (hb.mono hbel.size), h5⟩
theorem below_drewN (w : World) (n : Nat) : Below w.heap.size w (w.drewN n) := ⟨rfl, rfl, rfl, Nat.le_refl _, fun _ _ => rfl⟩
theorem Turn.after {Ob : Nat} {m1 m2 : Value} {w w1 w2 : World} (hb : Below w.heap.size w w1) (h : Turn Ob m1 m2 w1 w2) : Turn Ob m1 m2 w w2 := (Turn.of_below (Ob := Ob) (mv := m1) hb).trans h
/-- One block alone is turned. -/
structure OnlyAt (Ob : Nat) (w w' : World) : Prop where
  os : w'.os = w.os
  tape : w'.tape = w.tape
  output : w'.output = w.output
  size : w'.heap.size = w.heap.size
  block : ∀ k, k ≠ Ob → w'.heap[k]? = w.heap[k]?
theorem OnlyAt.refl (Ob : Nat) (w : World) : OnlyAt Ob w w := ⟨rfl, rfl, rfl, rfl, fun _ _ => rfl⟩
theorem OnlyAt.drew {Ob : Nat} {w w' : World} (h : OnlyAt Ob w w') : OnlyAt Ob w w'.drew := ⟨h.os, h.tape, h.output, h.size, h.block⟩
theorem OnlyAt.drewN {Ob : Nat} {w w' : World} (h : OnlyAt Ob w w') (n : Nat) : OnlyAt Ob w (w'.drewN n) := ⟨h.os, h.tape, h.output, h.size, h.block⟩
theorem OnlyAt.set {Ob : Nat} {w w' : World} (h : OnlyAt Ob w w') (i : Nat) (v : Value) : OnlyAt Ob w (w'.setCell ⟨Ob, i, none⟩ v) :=
  ⟨h.os, h.tape, h.output, by rw [World.size_setCell]; exact h.size, fun k hk => (Below.heap_setCell w' _ v k (by show k ≠ Ob; exact hk)).trans (h.block k hk)⟩
theorem OnlyAt.trans {Ob : Nat} {a b c : World} (h : OnlyAt Ob a b) (g : OnlyAt Ob b c) : OnlyAt Ob a c := ⟨g.os.trans h.os, g.tape.trans h.tape, g.output.trans h.output, g.size.trans h.size, fun k hk => (g.block k hk).trans (h.block k hk)⟩
/-- The reader's numbers are others. -/
theorem OutL.put {lim lim' : Nat} {w0 : World} {Ob : Nat} {ba : Option Addr} {bn bc N most : Nat} {w w' : World} {p p' : Nat} {mv : Value} {made : List Int} (h : OutL lim w0 Ob ba bn bc N most w p mv made) (at_ held left : Nat)
    (hon : OnlyAt Ob w w')
    (hh : w'.heap[Ob]? = some (.cells (cellsO ba bn bc at_ held left mv most) 104 (0, 0))) (h1 : p' + left = 8 * at_) (h2 : left < lim') (h3 : at_ ≤ bn) (h4 : held = N / 2 ^ p' % 2 ^ left) :
    OutL lim' w0 Ob ba bn bc N most w' p' mv made ∧ Turn Ob mv mv w w' := by
  obtain ⟨ho, hp, hq, hs, ht⟩ := hon
  obtain ⟨-, -, -, -, -, -, -, -, hm, hO, hb, hge, hlen, hr⟩ := h
  have hg : w.grownBy w' (some Ob) := ⟨ho, hp, hq, by omega, fun k _ hk => ht k (fun e => hk (by rw [e]))⟩
  exact ⟨⟨at_, held, left, hh, h1, h2, h3, h4, hm.kept hg (.inr hO), hO, ⟨ho.trans hb.os, hp.trans hb.tape, hq.trans hb.output, by rw [hs]; exact hb.size, fun k hk => (ht k (by omega)).trans (hb.block k hk)⟩, hge, hlen, hr⟩, ⟨ho, hp, hq, by omega, fun k _ hk _ => ht k hk, fun k hk => .inl hk⟩⟩
theorem cells_at (ba : Option Addr) (bn bc a h l : Nat) (mv : Value) (most a' : Nat) : (cellsO ba bn bc a h l mv most).setIfInBounds 1 (.int .i64 (a' : Int)) = cellsO ba bn bc a' h l mv most := rfl
theorem cells_held (ba : Option Addr) (bn bc a h l : Nat) (mv : Value) (most h' : Nat) : (cellsO ba bn bc a h l mv most).setIfInBounds 2 (.int .u64 (h' : Int)) = cellsO ba bn bc a h' l mv most := rfl
theorem cells_left (ba : Option Addr) (bn bc a h l : Nat) (mv : Value) (most l' : Nat) : (cellsO ba bn bc a h l mv most).setIfInBounds 3 (.int .i64 (l' : Int)) = cellsO ba bn bc a h l' mv most := rfl
theorem cells_made (ba : Option Addr) (bn bc a h l : Nat) (mv : Value) (most : Nat) (mv' : Value) : (cellsO ba bn bc a h l mv most).setIfInBounds 4 mv' = cellsO ba bn bc a h l mv' most := rfl
end Go.Proofs.YtglgchjkonjpiaaGreatDoor
/-! The signs of a block, plainly: one after the other. -/
namespace Go.Proofs.YtglgchjkonjpiaaGreatDoor
set_option linter.unusedVariables false
namespace Plain
/-- What is read lies farther on. -/
def Adv (L : Nat) (nx : Nat → Except Nat (Nat × Nat)) : Prop := ∀ p s q, nx p = .ok (s, q) → p < q ∧ q ≤ L
theorem adv_code {N L n p x q : Nat} (h : codeN N L p n = .ok (x, q)) : q = p + n ∧ q ≤ L := by
  unfold codeN at h
  cases hn : num N L p n with
  | error e => rw [hn] at h; cases h
  | ok v =>
    obtain ⟨y, z⟩ := v
    rw [hn] at h
    injection h with h
    injection h with h1 h2
    have := num_ok hn
    omega
theorem adv_fixedDist (N L : Nat) : Adv L (fixedDistN N L) := fun p s q h => by
  have := adv_code h; omega
theorem adv_fixedSign (N L : Nat) : Adv L (fixedSignN N L) := fun p s q h => by
  unfold fixedSignN at h
  cases hc : codeN N L p 7 with
  | error e => rw [hc] at h; cases h
  | ok v =>
    obtain ⟨x, r⟩ := v
    have h1 := adv_code hc
    rw [hc] at h
    simp only [] at h
    split at h
    · injection h with h; injection h with _ h; omega
    · cases hn : num N L r 1 with
      | error e => rw [hn] at h; cases h
      | ok v =>
        obtain ⟨b, r2⟩ := v
        have h2 := num_ok hn
        rw [hn] at h
        simp only [] at h
        split at h
        · injection h with h; injection h with _ h; omega
        · split at h
          · injection h with h; injection h with _ h; omega
          · cases hn2 : num N L r2 1 with
            | error e => rw [hn2] at h; cases h
            | ok v =>
              obtain ⟨c, r3⟩ := v
              have h3 := num_ok hn2
              rw [hn2] at h
              injection h with h; injection h with _ h; omega
theorem adv_signGo (N L : Nat) (c : CodeS) : ∀ (f l p x first ahead s q : Nat), signGo N L c f l p x first ahead = .ok (s, q) → p < q ∧ q ≤ L
  | 0, l, p, x, first, ahead, s, q, h => by simp [signGo] at h
  | f + 1, l, p, x, first, ahead, s, q, h => by
    rw [signGo] at h
    cases hn : num N L p 1 with
    | error e => rw [hn] at h; cases h
    | ok v =>
      obtain ⟨b, r⟩ := v
      have h2 := num_ok hn
      rw [hn] at h
      simp only [] at h
      split at h
      · injection h with h; injection h with _ h; omega
      · have := adv_signGo N L c f _ _ _ _ _ s q h; omega
theorem adv_sign (N L : Nat) (c : CodeS) : Adv L (signN N L c) := fun p s q h => adv_signGo N L c _ _ _ _ _ _ s q h
theorem adv_length {N L p s len q : Nat} (hp : p ≤ L) (h : lengthN N L p s = .ok (len, q)) : p ≤ q ∧ q ≤ L := by
  unfold lengthN at h
  split at h
  · injection h with h; injection h with _ h; omega
  · split at h
    · injection h with h; injection h with _ h; omega
    · cases hn : num N L p ((s - 261) / 4) with
      | error e => rw [hn] at h; cases h
      | ok v =>
        obtain ⟨b, r⟩ := v
        have h2 := num_ok hn
        rw [hn] at h
        injection h with h; injection h with _ h; omega
theorem adv_dist {N L p s d q : Nat} (hp : p ≤ L) (h : distN N L p s = .ok (d, q)) : p ≤ q ∧ q ≤ L := by
  unfold distN at h
  split at h
  · cases h
  · split at h
    · injection h with h; injection h with _ h; omega
    · cases hn : num N L p ((s - 2) / 2) with
      | error e => rw [hn] at h; cases h
      | ok v =>
        obtain ⟨b, r⟩ := v
        have h2 := num_ok hn
        rw [hn] at h
        injection h with h; injection h with _ h; omega
/-- What one sign does. -/
def stepN (N L most : Nat) (nx fr : Nat → Except Nat (Nat × Nat)) (p : Nat) (made : List Int) : Except Nat (Bool × Nat × List Int) := match nx p with
  | .error e => .error e
  | .ok (s, q) =>
    if s < 256 then match giveN most made (s : Int) with
      | .error e => .error e
      | .ok m => .ok (true, q, m)
    else if s = 256 then .ok (false, q, made)
    else if 286 ≤ s then .error 4
    else match lengthN N L q s with
      | .error e => .error e
      | .ok (len, r) => match fr r with
        | .error e => .error e
        | .ok (t, u) => match distN N L u t with
          | .error e => .error e
          | .ok (d, v) => match againN most made len d with
            | .error e => .error e
            | .ok m => .ok (true, v, m)
def contN (go : Nat → List Int → Except Nat (Nat × List Int)) : Except Nat (Bool × Nat × List Int) → Except Nat (Nat × List Int)
  | .error e => .error e
  | .ok (true, q, m) => go q m
  | .ok (false, q, m) => .ok (q, m)
theorem signsGo_step (N L most : Nat) (nx fr : Nat → Except Nat (Nat × Nat)) (f p : Nat) (made : List Int) : signsGo N L most nx fr (f + 1) p made = contN (signsGo N L most nx fr f) (stepN N L most nx fr p made) := by
  rw [signsGo, stepN]
  cases nx p with
  | error e => rfl
  | ok v =>
    obtain ⟨s, q⟩ := v
    simp only []
    split
    · cases giveN most made (s : Int) <;> rfl
    · split
      · rfl
      · split
        · rfl
        · cases lengthN N L q s with
          | error e => rfl
          | ok v =>
            obtain ⟨len, r⟩ := v
            simp only []
            cases fr r with
            | error e => rfl
            | ok v =>
              obtain ⟨t, u⟩ := v
              simp only []
              cases distN N L u t with
              | error e => rfl
              | ok v =>
                obtain ⟨d, w⟩ := v
                simp only []
                cases againN most made len d <;> rfl
theorem stepN_adv {N L most : Nat} {nx fr : Nat → Except Nat (Nat × Nat)} (hn : Adv L nx) (hf : Adv L fr) {p : Nat} {made : List Int} {b : Bool} {q : Nat} {m : List Int} (h : stepN N L most nx fr p made = .ok (b, q, m)) : p < q ∧ q ≤ L := by
  unfold stepN at h
  cases hnx : nx p with
  | error e => rw [hnx] at h; cases h
  | ok v =>
    obtain ⟨s, r⟩ := v
    have h1 := hn p s r hnx
    rw [hnx] at h
    simp only [] at h
    split at h
    · cases hg : giveN most made (s : Int) with
      | error e => rw [hg] at h; cases h
      | ok v => rw [hg] at h; injection h with h; injection h with _ h; injection h with h _; omega
    · split at h
      · injection h with h; injection h with _ h; injection h with h _; omega
      · split at h
        · cases h
        · cases hl : lengthN N L r s with
          | error e => rw [hl] at h; cases h
          | ok v =>
            obtain ⟨len, r2⟩ := v
            have h2 := adv_length h1.2 hl
            rw [hl] at h
            simp only [] at h
            cases hfr : fr r2 with
            | error e => rw [hfr] at h; cases h
            | ok v =>
              obtain ⟨t, u⟩ := v
              have h3 := hf r2 t u hfr
              rw [hfr] at h
              simp only [] at h
              cases hd : distN N L u t with
              | error e => rw [hd] at h; cases h
              | ok v =>
                obtain ⟨d, z⟩ := v
                have h4 := adv_dist h3.2 hd
                rw [hd] at h
                simp only [] at h
                cases ha : againN most made len d with
                | error e => rw [ha] at h; cases h
                | ok v => rw [ha] at h; injection h with h; injection h with _ h; injection h with h _; omega
theorem signsGo_same {N L most : Nat} {nx fr : Nat → Except Nat (Nat × Nat)} (hn : Adv L nx) (hf : Adv L fr) : ∀ (f g p : Nat) (made : List Int), p ≤ L → L + 1 - p ≤ f → L + 1 - p ≤ g → signsGo N L most nx fr f p made = signsGo N L most nx fr g p made
  | 0, g, p, made, hp, h1, h2 => by omega
  | f + 1, 0, p, made, hp, h1, h2 => by omega
  | f + 1, g + 1, p, made, hp, h1, h2 => by
    rw [signsGo_step, signsGo_step]
    cases hs : stepN N L most nx fr p made with
    | error e => rfl
    | ok v =>
      obtain ⟨b, q, m⟩ := v
      have := stepN_adv hn hf hs
      cases b with
      | false => rfl
      | true => exact signsGo_same hn hf f g q m this.2 (by omega) (by omega)
theorem signsN_step {N L most : Nat} {nx fr : Nat → Except Nat (Nat × Nat)} (hn : Adv L nx) (hf : Adv L fr) (p : Nat) (made : List Int) (hp : p ≤ L) : signsN N L most nx fr p made = contN (signsN N L most nx fr) (stepN N L most nx fr p made) := by
  unfold signsN
  rw [show L + 1 - p = (L - p) + 1 by omega, signsGo_step]
  cases hs : stepN N L most nx fr p made with
  | error e => rfl
  | ok v =>
    obtain ⟨b, q, m⟩ := v
    have := stepN_adv hn hf hs
    cases b with
    | false => rfl
    | true => exact signsGo_same hn hf _ _ q m this.2 (by omega) (by omega)
theorem signsN_ok {N L most : Nat} {nx fr : Nat → Except Nat (Nat × Nat)} (hn : Adv L nx) (hf : Adv L fr) : ∀ (k p : Nat) (made : List Int) (q : Nat) (m : List Int), p ≤ L → L - p ≤ k → signsN N L most nx fr p made = .ok (q, m) → p < q ∧ q ≤ L
  | k, p, made, q, m, hp, hk, h => by
    rw [signsN_step hn hf p made hp] at h
    cases hs : stepN N L most nx fr p made with
    | error e => rw [hs] at h; cases h
    | ok v =>
      obtain ⟨b, q2, m2⟩ := v
      have ha := stepN_adv hn hf hs
      rw [hs] at h
      cases b with
      | false => injection h with h; injection h with h _; omega
      | true =>
        cases k with
        | zero => omega
        | succ k =>
          have := signsN_ok hn hf k q2 m2 q m ha.2 (by omega) h
          omega
end Plain
end Go.Proofs.YtglgchjkonjpiaaGreatDoor
/-! The blocks, plainly: one after the other. -/
namespace Go.Proofs.YtglgchjkonjpiaaGreatDoor
set_option linter.unusedVariables false
namespace Plain
theorem adv_stored {bs : List Int} {N most p : Nat} {made : List Int} {q : Nat} {m : List Int} (h : storedN bs N (8 * bs.length) most p made = .ok (q, m)) : p < q ∧ q ≤ 8 * bs.length := by
  unfold storedN at h
  cases hn : num N (8 * bs.length) (8 * ((p + 7) / 8)) 16 with
  | error e => rw [hn] at h; cases h
  | ok v =>
    obtain ⟨x, r⟩ := v
    have h1 := num_ok hn
    rw [hn] at h
    simp only [] at h
    cases hm : num N (8 * bs.length) r 16 with
    | error e => rw [hm] at h; cases h
    | ok v =>
      obtain ⟨y, s⟩ := v
      have h2 := num_ok hm
      rw [hm] at h
      simp only [] at h
      split at h
      · cases h
      · split at h
        · cases h
        · split at h
          · cases h
          · injection h with h; injection h with h _; omega
/-- The codes' ends: no sooner than where they begin. -/
theorem adv_told {N L : Nat} : ∀ (l : List Nat) (p : Nat) (ls : List Nat) (q : Nat) (ms : List Nat), p ≤ L → toldGo N L l p ls = .ok (q, ms) → p ≤ q ∧ q ≤ L
  | [], p, ls, q, ms, hp, h => by rw [toldGo] at h; injection h with h; injection h with h _; omega
  | s :: t, p, ls, q, ms, hp, h => by
    rw [toldGo] at h
    cases hn : num N L p 3 with
    | error e => rw [hn] at h; cases h
    | ok v =>
      obtain ⟨x, r⟩ := v
      have h1 := num_ok hn
      rw [hn] at h
      simp only [] at h
      have := adv_told t r _ q ms h1.2.2 h
      omega
theorem adv_codeOf {N L p q : Nat} {c : CodeS} (h : codeOfLengthsN N L p = .ok (q, c)) : p ≤ q ∧ q ≤ L := by
  unfold codeOfLengthsN at h
  cases hn : num N L p 4 with
  | error e => rw [hn] at h; cases h
  | ok v =>
    obtain ⟨x, r⟩ := v
    have h1 := num_ok hn
    rw [hn] at h
    simp only [] at h
    cases ht : toldGo N L (orderN.take (x + 4)) r (List.replicate 19 0) with
    | error e => rw [ht] at h; cases h
    | ok v =>
      obtain ⟨s, ls⟩ := v
      have h2 := adv_told _ _ _ _ _ h1.2.2 ht
      rw [ht] at h
      simp only [] at h
      split at h
      · injection h with h; injection h with h _; omega
      · cases h
theorem adv_howMany {N L p n least most x q : Nat} (h : howManyN N L p n least most = .ok (x, q)) : p ≤ q ∧ q ≤ L := by
  unfold howManyN at h
  cases hn : num N L p n with
  | error e => rw [hn] at h; cases h
  | ok v =>
    obtain ⟨y, r⟩ := v
    have h1 := num_ok hn
    rw [hn] at h
    simp only [] at h
    split at h
    · cases h
    · injection h with h; injection h with _ h; omega
theorem adv_oneLen0 {N L : Nat} {c : CodeS} {p : Nat} {ls : List Nat} {len times q : Nat} (h : oneLen N L c p ls = .ok (len, times, q)) : p < q ∧ q ≤ L := by
  unfold oneLen at h
  cases hs : signN N L c p with
  | error e => rw [hs] at h; cases h
  | ok v =>
    obtain ⟨s, r⟩ := v
    have h1 := adv_sign N L c p s r hs
    rw [hs] at h
    simp only [] at h
    split at h
    · split at h
      · cases h
      · cases hn : num N L r 2 with
        | error e => rw [hn] at h; cases h
        | ok v =>
          have h2 := num_ok hn
          rw [hn] at h; injection h with h; injection h with _ h; injection h with _ h; omega
    · split at h
      · cases hn : num N L r 3 with
        | error e => rw [hn] at h; cases h
        | ok v =>
          have h2 := num_ok hn
          rw [hn] at h; injection h with h; injection h with _ h; injection h with _ h; omega
      · split at h
        · cases hn : num N L r 7 with
          | error e => rw [hn] at h; cases h
          | ok v =>
            have h2 := num_ok hn
            rw [hn] at h; injection h with h; injection h with _ h; injection h with _ h; omega
        · injection h with h; injection h with _ h; injection h with _ h; omega
theorem adv_lensGo {N L : Nat} {c : CodeS} {n : Nat} : ∀ (f p : Nat) (ls : List Nat) (q : Nat) (ms : List Nat), p ≤ L → lensGo N L c n f p ls = .ok (q, ms) → p ≤ q ∧ q ≤ L
  | 0, p, ls, q, ms, hp, h => by rw [lensGo] at h; cases h
  | f + 1, p, ls, q, ms, hp, h => by
    rw [lensGo] at h
    split at h
    · injection h with h; injection h with h _; omega
    · cases ho : oneLen N L c p ls with
      | error e => rw [ho] at h; cases h
      | ok v =>
        obtain ⟨len, times, r⟩ := v
        have h1 := adv_oneLen0 ho
        rw [ho] at h
        simp only [] at h
        split at h
        · cases h
        · have := adv_lensGo f r _ q ms h1.2 h
          omega
theorem adv_own {N L p q : Nat} {c d : CodeS} (h : ownCodesN N L p = .ok (q, c, d)) : p ≤ q ∧ q ≤ L := by
  unfold ownCodesN at h
  cases h1 : howManyN N L p 5 257 286 with
  | error e => rw [h1] at h; cases h
  | ok v =>
    obtain ⟨n, q1⟩ := v
    have a1 := adv_howMany h1
    rw [h1] at h
    simp only [] at h
    cases h2 : howManyN N L q1 5 1 30 with
    | error e => rw [h2] at h; cases h
    | ok v =>
      obtain ⟨m, q2⟩ := v
      have a2 := adv_howMany h2
      rw [h2] at h
      simp only [] at h
      cases h3 : codeOfLengthsN N L q2 with
      | error e => rw [h3] at h; cases h
      | ok v =>
        obtain ⟨q3, cc⟩ := v
        have a3 := adv_codeOf h3
        rw [h3] at h
        simp only [] at h
        cases h4 : lensN N L cc (n + m) q3 with
        | error e => rw [h4] at h; cases h
        | ok v =>
          obtain ⟨q4, ls⟩ := v
          have a4 := adv_lensGo _ _ _ _ _ a3.2 h4
          rw [h4] at h
          simp only [] at h
          split at h
          · cases h
          · injection h with h; injection h with h _; omega
theorem adv_block {bs : List Int} {N most kind p : Nat} {made : List Int} {q : Nat} {m : List Int} (hp : p ≤ 8 * bs.length) (h : blockN bs N (8 * bs.length) most kind p made = .ok (q, m)) : p < q ∧ q ≤ 8 * bs.length := by
  unfold blockN at h
  split at h
  · exact adv_stored h
  · split at h
    · exact signsN_ok (adv_fixedSign _ _) (adv_fixedDist _ _) _ _ _ _ _ hp (Nat.le_refl _) h
    · split at h
      · cases ho : ownCodesN N (8 * bs.length) p with
        | error e => rw [ho] at h; cases h
        | ok v =>
          obtain ⟨r, c, d⟩ := v
          have h1 := adv_own ho
          rw [ho] at h
          have := signsN_ok (adv_sign _ _ _) (adv_sign _ _ _) _ _ _ _ _ h1.2 (Nat.le_refl _) h
          omega
      · cases h
/-- One block with its head: is it the last one, the place behind, what is made. -/
def stepR (bs : List Int) (N L most p : Nat) (made : List Int) : Except Nat (Nat × Nat × List Int) := match num N L p 1 with
  | .error e => .error e
  | .ok (last, q) => match num N L q 2 with
    | .error e => .error e
    | .ok (kind, r) => match blockN bs N L most kind r made with
      | .error e => .error e
      | .ok (s, m) => .ok (last, s, m)
def contR (go : Nat → List Int → Except Nat (Nat × List Int)) : Except Nat (Nat × Nat × List Int) → Except Nat (Nat × List Int)
  | .error e => .error e
  | .ok (last, q, m) => if last = 0 then go q m else .ok (q, m)
theorem rawGo_step (bs : List Int) (N L most f p : Nat) (made : List Int) : rawGo bs N L most (f + 1) p made = contR (rawGo bs N L most f) (stepR bs N L most p made) := by
  rw [rawGo, stepR]
  cases num N L p 1 with
  | error e => rfl
  | ok v =>
    obtain ⟨last, q⟩ := v
    simp only []
    cases num N L q 2 with
    | error e => rfl
    | ok v =>
      obtain ⟨kind, r⟩ := v
      simp only []
      cases blockN bs N L most kind r made <;> rfl
theorem stepR_adv {bs : List Int} {N most p : Nat} {made : List Int} {last q : Nat} {m : List Int} (h : stepR bs N (8 * bs.length) most p made = .ok (last, q, m)) : p < q ∧ q ≤ 8 * bs.length := by
  unfold stepR at h
  cases h1 : num N (8 * bs.length) p 1 with
  | error e => rw [h1] at h; cases h
  | ok v =>
    obtain ⟨x, r⟩ := v
    have a1 := num_ok h1
    rw [h1] at h
    simp only [] at h
    cases h2 : num N (8 * bs.length) r 2 with
    | error e => rw [h2] at h; cases h
    | ok v =>
      obtain ⟨y, s⟩ := v
      have a2 := num_ok h2
      rw [h2] at h
      simp only [] at h
      cases h3 : blockN bs N (8 * bs.length) most y s made with
      | error e => rw [h3] at h; cases h
      | ok v =>
        obtain ⟨t, m2⟩ := v
        have a3 := adv_block a2.2.2 h3
        rw [h3] at h
        injection h with h; injection h with _ h; injection h with h _; omega
theorem rawGo_same {bs : List Int} {N most : Nat} : ∀ (f g p : Nat) (made : List Int), p ≤ 8 * bs.length → 8 * bs.length + 1 - p ≤ f → 8 * bs.length + 1 - p ≤ g → rawGo bs N (8 * bs.length) most f p made = rawGo bs N (8 * bs.length) most g p made
  | 0, g, p, made, hp, h1, h2 => by omega
  | f + 1, 0, p, made, hp, h1, h2 => by omega
  | f + 1, g + 1, p, made, hp, h1, h2 => by
    rw [rawGo_step, rawGo_step]
    cases hs : stepR bs N (8 * bs.length) most p made with
    | error e => rfl
    | ok v =>
      obtain ⟨l, q, m⟩ := v
      have := stepR_adv hs
      by_cases hl : l = 0
      · simp only [contR, if_pos hl]
        exact rawGo_same f g q m this.2 (by omega) (by omega)
      · simp only [contR, if_neg hl]
def rawAt (bs : List Int) (N most p : Nat) (made : List Int) : Except Nat (Nat × List Int) := rawGo bs N (8 * bs.length) most (8 * bs.length + 1 - p) p made
theorem rawAt_step {bs : List Int} {N most p : Nat} {made : List Int} (hp : p ≤ 8 * bs.length) : rawAt bs N most p made = contR (rawAt bs N most) (stepR bs N (8 * bs.length) most p made) := by
  unfold rawAt
  rw [show 8 * bs.length + 1 - p = (8 * bs.length - p) + 1 by omega, rawGo_step]
  cases hs : stepR bs N (8 * bs.length) most p made with
  | error e => rfl
  | ok v =>
    obtain ⟨l, q, m⟩ := v
    have := stepR_adv hs
    by_cases hl : l = 0
    · simp only [contR, if_pos hl]
      exact rawGo_same _ _ q m this.2 (by omega) (by omega)
    · simp only [contR, if_neg hl]
theorem rawOf_at (bs : List Int) (most : Nat) : rawOf bs most = rawAt bs (streamN bs) most 0 [] := rfl
end Plain
end Go.Proofs.YtglgchjkonjpiaaGreatDoor
/-! No fault's number is 0. -/
namespace Go.Proofs.YtglgchjkonjpiaaGreatDoor
set_option linter.unusedVariables false
namespace Plain
theorem nz_num {N L p n k : Nat} (h : num N L p n = .error k) : k ≠ 0 := by rw [num_err h]; decide
theorem nz_give {most : Nat} {made : List Int} {x : Int} {k : Nat} (h : giveN most made x = .error k) : k ≠ 0 := by
  unfold giveN at h
  split at h
  · injection h with h; omega
  · cases h
theorem nz_code {N L p n k : Nat} (h : codeN N L p n = .error k) : k ≠ 0 := by
  unfold codeN at h
  split at h
  · rename_i e he; injection h with h; subst h; exact nz_num he
  · cases h
theorem nz_dist5 {N L p k : Nat} (h : fixedDistN N L p = .error k) : k ≠ 0 := nz_code h
theorem nz_fixed {N L p k : Nat} (h : fixedSignN N L p = .error k) : k ≠ 0 := by
  unfold fixedSignN at h
  split at h
  · rename_i e he; injection h with h; subst h; exact nz_code he
  · split at h
    · cases h
    · split at h
      · rename_i e he; injection h with h; subst h; exact nz_num he
      · split at h
        · cases h
        · split at h
          · cases h
          · split at h
            · rename_i e he; injection h with h; subst h; exact nz_num he
            · cases h
theorem nz_signGo {N L : Nat} {c : CodeS} : ∀ (f l p x first ahead k : Nat), signGo N L c f l p x first ahead = .error k → k ≠ 0
  | 0, l, p, x, first, ahead, k, h => by rw [signGo] at h; injection h with h; omega
  | f + 1, l, p, x, first, ahead, k, h => by
    rw [signGo] at h
    split at h
    · rename_i e he; injection h with h; subst h; exact nz_num he
    · split at h
      · cases h
      · exact nz_signGo f _ _ _ _ _ k h
theorem nz_sign {N L p k : Nat} {c : CodeS} (h : signN N L c p = .error k) : k ≠ 0 := nz_signGo _ _ _ _ _ _ k h
theorem nz_length {N L p s k : Nat} (h : lengthN N L p s = .error k) : k ≠ 0 := by
  unfold lengthN at h
  split at h
  · cases h
  · split at h
    · cases h
    · split at h
      · rename_i e he; injection h with h; subst h; exact nz_num he
      · cases h
theorem nz_dist {N L p s k : Nat} (h : distN N L p s = .error k) : k ≠ 0 := by
  unfold distN at h
  split at h
  · injection h with h; omega
  · split at h
    · cases h
    · split at h
      · rename_i e he; injection h with h; subst h; exact nz_num he
      · cases h
theorem nz_againGo {most d : Nat} : ∀ (f : Nat) (made : List Int) (k : Nat), againGo most d f made = .error k → k ≠ 0
  | 0, made, k, h => by rw [againGo] at h; cases h
  | f + 1, made, k, h => by
    rw [againGo] at h
    split at h
    · rename_i e he; injection h with h; subst h; exact nz_give he
    · exact nz_againGo f _ k h
theorem nz_again {most len d k : Nat} {made : List Int} (h : againN most made len d = .error k) : k ≠ 0 := by
  unfold againN at h
  split at h
  · injection h with h; omega
  · exact nz_againGo _ _ k h
theorem nz_step {N L most : Nat} {nx fr : Nat → Except Nat (Nat × Nat)} (hn : ∀ p k, nx p = .error k → k ≠ 0) (hf : ∀ p k, fr p = .error k → k ≠ 0) {p k : Nat} {made : List Int} (h : stepN N L most nx fr p made = .error k) : k ≠ 0 := by
  unfold stepN at h
  split at h
  · rename_i e he; injection h with h; subst h; exact hn _ _ he
  · split at h
    · split at h
      · rename_i e he; injection h with h; subst h; exact nz_give he
      · cases h
    · split at h
      · cases h
      · split at h
        · injection h with h; omega
        · split at h
          · rename_i e he; injection h with h; subst h; exact nz_length he
          · split at h
            · rename_i e he; injection h with h; subst h; exact hf _ _ he
            · split at h
              · rename_i e he; injection h with h; subst h; exact nz_dist he
              · split at h
                · rename_i e he; injection h with h; subst h; exact nz_again he
                · cases h
theorem nz_signsGo {N L most : Nat} {nx fr : Nat → Except Nat (Nat × Nat)} (hn : ∀ p k, nx p = .error k → k ≠ 0) (hf : ∀ p k, fr p = .error k → k ≠ 0) : ∀ (f p : Nat) (made : List Int) (k : Nat), signsGo N L most nx fr f p made = .error k → k ≠ 0
  | 0, p, made, k, h => by rw [signsGo] at h; injection h with h; omega
  | f + 1, p, made, k, h => by
    rw [signsGo_step] at h
    cases hs : stepN N L most nx fr p made with
    | error e => rw [hs] at h; injection h with h; subst h; exact nz_step hn hf hs
    | ok v =>
      obtain ⟨b, q, m⟩ := v
      rw [hs] at h
      cases b with
      | false => cases h
      | true => exact nz_signsGo hn hf f q m k h
theorem nz_stored {bs : List Int} {N L most p k : Nat} {made : List Int} (h : storedN bs N L most p made = .error k) : k ≠ 0 := by
  unfold storedN at h
  split at h
  · rename_i e he; injection h with h; subst h; exact nz_num he
  · split at h
    · rename_i e he; injection h with h; subst h; exact nz_num he
    · split at h
      · injection h with h; omega
      · split at h
        · injection h with h; omega
        · split at h
          · injection h with h; omega
          · cases h
theorem nz_howMany {N L p n least most k : Nat} (h : howManyN N L p n least most = .error k) : k ≠ 0 := by
  unfold howManyN at h
  split at h
  · rename_i e he; injection h with h; subst h; exact nz_num he
  · split at h
    · injection h with h; omega
    · cases h
theorem nz_told {N L : Nat} : ∀ (l : List Nat) (p : Nat) (ls : List Nat) (k : Nat), toldGo N L l p ls = .error k → k ≠ 0
  | [], p, ls, k, h => by rw [toldGo] at h; cases h
  | s :: t, p, ls, k, h => by
    rw [toldGo] at h
    split at h
    · rename_i e he; injection h with h; subst h; exact nz_num he
    · exact nz_told t _ _ k h
theorem nz_codeOf {N L p k : Nat} (h : codeOfLengthsN N L p = .error k) : k ≠ 0 := by
  unfold codeOfLengthsN at h
  split at h
  · rename_i e he; injection h with h; subst h; exact nz_num he
  · split at h
    · rename_i e he; injection h with h; subst h; exact nz_told _ _ _ _ he
    · split at h
      · cases h
      · injection h with h; omega
theorem nz_oneLen {N L : Nat} {c : CodeS} {p k : Nat} {ls : List Nat} (h : oneLen N L c p ls = .error k) : k ≠ 0 := by
  unfold oneLen at h
  split at h
  · rename_i e he; injection h with h; subst h; exact nz_sign he
  · split at h
    · split at h
      · injection h with h; omega
      · split at h
        · rename_i e he; injection h with h; subst h; exact nz_num he
        · cases h
    · split at h
      · split at h
        · rename_i e he; injection h with h; subst h; exact nz_num he
        · cases h
      · split at h
        · split at h
          · rename_i e he; injection h with h; subst h; exact nz_num he
          · cases h
        · cases h
theorem nz_lensGo {N L : Nat} {c : CodeS} {n : Nat} : ∀ (f p : Nat) (ls : List Nat) (k : Nat), lensGo N L c n f p ls = .error k → k ≠ 0
  | 0, p, ls, k, h => by rw [lensGo] at h; injection h with h; omega
  | f + 1, p, ls, k, h => by
    rw [lensGo] at h
    split at h
    · cases h
    · split at h
      · rename_i e he; injection h with h; subst h; exact nz_oneLen he
      · split at h
        · injection h with h; omega
        · exact nz_lensGo f _ _ k h
theorem nz_own {N L p k : Nat} (h : ownCodesN N L p = .error k) : k ≠ 0 := by
  unfold ownCodesN at h
  split at h
  · rename_i e he; injection h with h; subst h; exact nz_howMany he
  · split at h
    · rename_i e he; injection h with h; subst h; exact nz_howMany he
    · split at h
      · rename_i e he; injection h with h; subst h; exact nz_codeOf he
      · split at h
        · rename_i e he; injection h with h; subst h; exact nz_lensGo _ _ _ _ he
        · split at h
          · injection h with h; omega
          · cases h
theorem nz_block {bs : List Int} {N L most kind p k : Nat} {made : List Int} (h : blockN bs N L most kind p made = .error k) : k ≠ 0 := by
  unfold blockN at h
  split at h
  · exact nz_stored h
  · split at h
    · exact nz_signsGo (fun _ _ h => nz_fixed h) (fun _ _ h => nz_dist5 h) _ _ _ k h
    · split at h
      · split at h
        · rename_i e he; injection h with h; subst h; exact nz_own he
        · exact nz_signsGo (fun _ _ h => nz_sign h) (fun _ _ h => nz_sign h) _ _ _ k h
      · injection h with h; omega
theorem nz_rawGo {bs : List Int} {N L most : Nat} : ∀ (f p : Nat) (made : List Int) (k : Nat), rawGo bs N L most f p made = .error k → k ≠ 0
  | 0, p, made, k, h => by rw [rawGo] at h; injection h with h; omega
  | f + 1, p, made, k, h => by
    rw [rawGo] at h
    split at h
    · rename_i e he; injection h with h; subst h; exact nz_num he
    · split at h
      · rename_i e he; injection h with h; subst h; exact nz_num he
      · split at h
        · rename_i e he; injection h with h; subst h; exact nz_block he
        · split at h
          · exact nz_rawGo f _ _ k h
          · cases h
theorem nz_raw {bs : List Int} {most k : Nat} (h : rawOf bs most = .error k) : k ≠ 0 := nz_rawGo _ _ _ k h
end Plain
end Go.Proofs.YtglgchjkonjpiaaGreatDoor
/-! Bytes ahead: everything lies farther on, and nothing else turns. -/
namespace Go.Proofs.YtglgchjkonjpiaaGreatDoor
set_option linter.unusedVariables false
namespace Plain
def sh2 {α : Type} (d : Nat) : Except Nat (α × Nat) → Except Nat (α × Nat)
  | .error e => .error e
  | .ok (x, q) => .ok (x, q + d)
def sh1 {β : Type} (d : Nat) : Except Nat (Nat × β) → Except Nat (Nat × β)
  | .error e => .error e
  | .ok (q, m) => .ok (q + d, m)
def shM {α β : Type} (d : Nat) : Except Nat (α × Nat × β) → Except Nat (α × Nat × β)
  | .error e => .error e
  | .ok (x, q, m) => .ok (x, q + d, m)
def sh3 {α β : Type} (d : Nat) : Except Nat (α × β × Nat) → Except Nat (α × β × Nat)
  | .error e => .error e
  | .ok (x, y, q) => .ok (x, y, q + d)
section
variable {N' N L k : Nat} (H : ∀ p n, num N' (L + 8 * k) (p + 8 * k) n = sh2 (8 * k) (num N L p n))
include H
theorem sh_code (p n : Nat) : codeN N' (L + 8 * k) (p + 8 * k) n = sh2 (8 * k) (codeN N L p n) := by
  unfold codeN
  rw [H]
  cases num N L p n <;> rfl
theorem sh_fixedDist (p : Nat) : fixedDistN N' (L + 8 * k) (p + 8 * k) = sh2 (8 * k) (fixedDistN N L p) := sh_code H p 5
theorem sh_fixed (p : Nat) : fixedSignN N' (L + 8 * k) (p + 8 * k) = sh2 (8 * k) (fixedSignN N L p) := by
  unfold fixedSignN
  rw [sh_code H]
  cases codeN N L p 7 with
  | error e => rfl
  | ok v =>
    obtain ⟨x, q⟩ := v
    simp only [sh2]
    split
    · rfl
    · rw [H]
      cases num N L q 1 with
      | error e => rfl
      | ok v =>
        obtain ⟨b, r⟩ := v
        simp only [sh2]
        split
        · rfl
        · split
          · rfl
          · rw [H]
            cases num N L r 1 <;> rfl
theorem sh_signGo (c : CodeS) : ∀ (f l p x first ahead : Nat), signGo N' (L + 8 * k) c f l (p + 8 * k) x first ahead = sh2 (8 * k) (signGo N L c f l p x first ahead)
  | 0, l, p, x, first, ahead => rfl
  | f + 1, l, p, x, first, ahead => by
    rw [signGo, signGo, H]
    cases num N L p 1 with
    | error e => rfl
    | ok v =>
      obtain ⟨b, q⟩ := v
      simp only [sh2]
      split
      · rfl
      · exact sh_signGo c f _ _ _ _ _
theorem sh_sign (c : CodeS) (p : Nat) : signN N' (L + 8 * k) c (p + 8 * k) = sh2 (8 * k) (signN N L c p) := sh_signGo H c _ _ _ _ _ _
theorem sh_length (p s : Nat) : lengthN N' (L + 8 * k) (p + 8 * k) s = sh2 (8 * k) (lengthN N L p s) := by
  unfold lengthN
  split
  · rfl
  · split
    · rfl
    · rw [H]; cases num N L p ((s - 261) / 4) <;> rfl
theorem sh_dist (p s : Nat) : distN N' (L + 8 * k) (p + 8 * k) s = sh2 (8 * k) (distN N L p s) := by
  unfold distN
  split
  · rfl
  · split
    · rfl
    · rw [H]; cases num N L p ((s - 2) / 2) <;> rfl
theorem sh_step (most : Nat) {nx' fr' nx fr : Nat → Except Nat (Nat × Nat)} (hn : ∀ p, nx' (p + 8 * k) = sh2 (8 * k) (nx p)) (hf : ∀ p, fr' (p + 8 * k) = sh2 (8 * k) (fr p)) (p : Nat) (made : List Int) :
    stepN N' (L + 8 * k) most nx' fr' (p + 8 * k) made = shM (8 * k) (stepN N L most nx fr p made) := by
  unfold stepN
  rw [hn]
  cases nx p with
  | error e => rfl
  | ok v =>
    obtain ⟨s, q⟩ := v
    simp only [sh2]
    split
    · cases giveN most made (s : Int) <;> rfl
    · split
      · rfl
      · split
        · rfl
        · rw [sh_length H]
          cases lengthN N L q s with
          | error e => rfl
          | ok v =>
            obtain ⟨len, r⟩ := v
            simp only [sh2]
            rw [hf]
            cases fr r with
            | error e => rfl
            | ok v =>
              obtain ⟨t, u⟩ := v
              simp only [sh2]
              rw [sh_dist H]
              cases distN N L u t with
              | error e => rfl
              | ok v =>
                obtain ⟨d, z⟩ := v
                simp only [sh2]
                cases againN most made len d <;> rfl
theorem sh_signsGo (most : Nat) {nx' fr' nx fr : Nat → Except Nat (Nat × Nat)} (hn : ∀ p, nx' (p + 8 * k) = sh2 (8 * k) (nx p)) (hf : ∀ p, fr' (p + 8 * k) = sh2 (8 * k) (fr p)) : ∀ (f p : Nat) (made : List Int),
    signsGo N' (L + 8 * k) most nx' fr' f (p + 8 * k) made = sh1 (8 * k) (signsGo N L most nx fr f p made)
  | 0, p, made => rfl
  | f + 1, p, made => by
    rw [signsGo_step, signsGo_step, sh_step H most hn hf]
    cases stepN N L most nx fr p made with
    | error e => rfl
    | ok v =>
      obtain ⟨b, q, m⟩ := v
      cases b with
      | false => rfl
      | true => exact sh_signsGo most hn hf f q m
theorem sh_signs (most : Nat) {nx' fr' nx fr : Nat → Except Nat (Nat × Nat)} (hn : ∀ p, nx' (p + 8 * k) = sh2 (8 * k) (nx p)) (hf : ∀ p, fr' (p + 8 * k) = sh2 (8 * k) (fr p)) (p : Nat) (made : List Int) :
    signsN N' (L + 8 * k) most nx' fr' (p + 8 * k) made = sh1 (8 * k) (signsN N L most nx fr p made) := by
  unfold signsN
  rw [show L + 8 * k + 1 - (p + 8 * k) = L + 1 - p by omega]
  exact sh_signsGo H most hn hf _ _ _
theorem sh_howMany (p n least most : Nat) : howManyN N' (L + 8 * k) (p + 8 * k) n least most = sh2 (8 * k) (howManyN N L p n least most) := by
  unfold howManyN
  rw [H]
  cases num N L p n with
  | error e => rfl
  | ok v =>
    obtain ⟨x, q⟩ := v
    simp only [sh2]
    split <;> rfl
theorem sh_told : ∀ (l : List Nat) (p : Nat) (ls : List Nat), toldGo N' (L + 8 * k) l (p + 8 * k) ls = sh1 (8 * k) (toldGo N L l p ls)
  | [], p, ls => rfl
  | s :: t, p, ls => by
    rw [toldGo, toldGo, H]
    cases num N L p 3 with
    | error e => rfl
    | ok v =>
      obtain ⟨x, q⟩ := v
      simp only [sh2]
      exact sh_told t q _
theorem sh_codeOf (p : Nat) : codeOfLengthsN N' (L + 8 * k) (p + 8 * k) = sh1 (8 * k) (codeOfLengthsN N L p) := by
  unfold codeOfLengthsN
  rw [H]
  cases num N L p 4 with
  | error e => rfl
  | ok v =>
    obtain ⟨x, q⟩ := v
    simp only [sh2]
    rw [sh_told H]
    cases toldGo N L (orderN.take (x + 4)) q (List.replicate 19 0) with
    | error e => rfl
    | ok v =>
      obtain ⟨r, ls⟩ := v
      simp only [sh1]
      split <;> rfl
theorem sh_oneLen (c : CodeS) (p : Nat) (ls : List Nat) : oneLen N' (L + 8 * k) c (p + 8 * k) ls = sh3 (8 * k) (oneLen N L c p ls) := by
  unfold oneLen
  rw [sh_sign H]
  cases signN N L c p with
  | error e => rfl
  | ok v =>
    obtain ⟨s, q⟩ := v
    simp only [sh2]
    split
    · split
      · rfl
      · rw [H]; cases num N L q 2 <;> rfl
    · split
      · rw [H]; cases num N L q 3 <;> rfl
      · split
        · rw [H]; cases num N L q 7 <;> rfl
        · rfl
theorem sh_lensGo (c : CodeS) (n : Nat) : ∀ (f p : Nat) (ls : List Nat), lensGo N' (L + 8 * k) c n f (p + 8 * k) ls = sh1 (8 * k) (lensGo N L c n f p ls)
  | 0, p, ls => rfl
  | f + 1, p, ls => by
    rw [lensGo, lensGo]
    split
    · rfl
    · rw [sh_oneLen H]
      cases oneLen N L c p ls with
      | error e => rfl
      | ok v =>
        obtain ⟨len, times, q⟩ := v
        simp only [sh3]
        split
        · rfl
        · exact sh_lensGo c n f q _
theorem sh_lens (c : CodeS) (n p : Nat) : lensN N' (L + 8 * k) c n (p + 8 * k) = sh1 (8 * k) (lensN N L c n p) := by
  unfold lensN
  rw [show L + 8 * k + 1 - (p + 8 * k) = L + 1 - p by omega]
  exact sh_lensGo H c n _ _ _
theorem sh_own (p : Nat) : ownCodesN N' (L + 8 * k) (p + 8 * k) = sh1 (8 * k) (ownCodesN N L p) := by
  unfold ownCodesN
  rw [sh_howMany H]
  cases howManyN N L p 5 257 286 with
  | error e => rfl
  | ok v =>
    obtain ⟨n, q1⟩ := v
    simp only [sh2]
    rw [sh_howMany H]
    cases howManyN N L q1 5 1 30 with
    | error e => rfl
    | ok v =>
      obtain ⟨m, q2⟩ := v
      simp only [sh2]
      rw [sh_codeOf H]
      cases codeOfLengthsN N L q2 with
      | error e => rfl
      | ok v =>
        obtain ⟨q3, cc⟩ := v
        simp only [sh1]
        rw [sh_lens H]
        cases lensN N L cc (n + m) q3 with
        | error e => rfl
        | ok v =>
          obtain ⟨q4, ls⟩ := v
          simp only [sh1]
          split <;> rfl
theorem sh_stored (c b : List Int) (hc : c.length = k) (most p : Nat) (made : List Int) : storedN (c ++ b) N' (L + 8 * k) most (p + 8 * k) made = sh1 (8 * k) (storedN b N L most p made) := by
  unfold storedN
  rw [show 8 * ((p + 8 * k + 7) / 8) = 8 * ((p + 7) / 8) + 8 * k by omega, H]
  cases num N L (8 * ((p + 7) / 8)) 16 with
  | error e => rfl
  | ok v =>
    obtain ⟨n, q⟩ := v
    simp only [sh2]
    rw [H]
    cases num N L q 16 with
    | error e => rfl
    | ok v =>
      obtain ⟨m, r⟩ := v
      simp only [sh2]
      have e1 : (c ++ b).length - (r + 8 * k) / 8 = b.length - r / 8 := by rw [List.length_append, hc]; omega
      have e2 : (c ++ b).drop ((r + 8 * k) / 8) = b.drop (r / 8) := by
        rw [show (r + 8 * k) / 8 = c.length + r / 8 by rw [hc]; omega, List.drop_append, List.drop_eq_nil_of_le (by omega), List.nil_append, Nat.add_sub_cancel_left]
      rw [e1, e2]
      split
      · rfl
      · split
        · rfl
        · split
          · rfl
          · simp only [sh1]
            rw [show r + 8 * k + 8 * n = r + 8 * n + 8 * k by omega]
theorem sh_block (c b : List Int) (hc : c.length = k) (most kind p : Nat) (made : List Int) : blockN (c ++ b) N' (L + 8 * k) most kind (p + 8 * k) made = sh1 (8 * k) (blockN b N L most kind p made) := by
  unfold blockN
  split
  · exact sh_stored H c b hc most p made
  · split
    · exact sh_signs H most (sh_fixed H) (sh_fixedDist H) p made
    · split
      · rw [sh_own H]
        cases ownCodesN N L p with
        | error e => rfl
        | ok v =>
          obtain ⟨q, cc, dd⟩ := v
          exact sh_signs H most (sh_sign H cc) (sh_sign H dd) q made
      · rfl
theorem sh_stepR (c b : List Int) (hc : c.length = k) (most p : Nat) (made : List Int) : stepR (c ++ b) N' (L + 8 * k) most (p + 8 * k) made = shM (8 * k) (stepR b N L most p made) := by
  unfold stepR
  rw [H]
  cases num N L p 1 with
  | error e => rfl
  | ok v =>
    obtain ⟨last, q⟩ := v
    simp only [sh2]
    rw [H]
    cases num N L q 2 with
    | error e => rfl
    | ok v =>
      obtain ⟨kind, r⟩ := v
      simp only [sh2]
      rw [sh_block H c b hc]
      cases blockN b N L most kind r made <;> rfl
theorem sh_rawGo (c b : List Int) (hc : c.length = k) (most : Nat) : ∀ (f p : Nat) (made : List Int), rawGo (c ++ b) N' (L + 8 * k) most f (p + 8 * k) made = sh1 (8 * k) (rawGo b N L most f p made)
  | 0, p, made => rfl
  | f + 1, p, made => by
    rw [rawGo_step, rawGo_step, sh_stepR H c b hc]
    cases stepR b N L most p made with
    | error e => rfl
    | ok v =>
      obtain ⟨l, q, m⟩ := v
      simp only [shM, contR]
      split
      · exact sh_rawGo c b hc most f q m
      · rfl
end
theorem stream_append : ∀ (c b : List Int), (∀ x ∈ c, 0 ≤ x ∧ x ≤ 255) → streamN (c ++ b) = streamN c + 256 ^ c.length * streamN b ∧ streamN c < 256 ^ c.length
  | [], b, h => by simp [streamN]
  | x :: t, b, h => by
    have hx := h x (by simp)
    obtain ⟨h1, h2⟩ := stream_append t b (fun y hy => h y (by simp [hy]))
    rw [List.cons_append, streamN, streamN, h1, List.length_cons, Nat.pow_succ]
    refine ⟨?_, by omega⟩
    rw [Nat.mul_add, ← Nat.mul_assoc, Nat.mul_comm 256 (256 ^ t.length), Nat.add_assoc]
theorem num_shift (c b : List Int) (hc : ∀ x ∈ c, 0 ≤ x ∧ x ≤ 255) (p n : Nat) : num (streamN (c ++ b)) (8 * b.length + 8 * c.length) (p + 8 * c.length) n = sh2 (8 * c.length) (num (streamN b) (8 * b.length) p n) := by
  obtain ⟨h1, h2⟩ := stream_append c b hc
  have e : streamN (c ++ b) / 2 ^ (p + 8 * c.length) = streamN b / 2 ^ p := by
    rw [Nat.add_comm p, Nat.pow_add, Nat.pow_mul, ← Nat.div_div_eq_div_mul, h1]
    rw [show (2 : Nat) ^ 8 = 256 by rfl, Nat.add_mul_div_left _ _ (Nat.pow_pos (by omega)), Nat.div_eq_of_lt h2, Nat.zero_add]
  unfold num
  by_cases h : p + n ≤ 8 * b.length
  · rw [if_pos (by omega), if_pos h, e]
    simp only [sh2, Except.ok.injEq, Prod.mk.injEq, true_and]; omega
  · rw [if_neg (by omega), if_neg h]; rfl
theorem raw_shift (c b : List Int) (hc : ∀ x ∈ c, 0 ≤ x ∧ x ≤ 255) (most p : Nat) (made : List Int) : rawAt (c ++ b) (streamN (c ++ b)) most (p + 8 * c.length) made = sh1 (8 * c.length) (rawAt b (streamN b) most p made) := by
  unfold rawAt
  rw [show 8 * (c ++ b).length = 8 * b.length + 8 * c.length by rw [List.length_append]; omega, show 8 * b.length + 8 * c.length + 1 - (p + 8 * c.length) = 8 * b.length + 1 - p by omega]
  exact sh_rawGo (num_shift c b hc) c b rfl most _ _ _
theorem num_byte {bs : List Int} (h : ∀ x ∈ bs, 0 ≤ x ∧ x ≤ 255) (i : Nat) (hi : i < bs.length) (n o : Nat) (ho : o + n ≤ 8) : num (streamN bs) (8 * bs.length) (8 * i + o) n = .ok ((bs[i]?.getD 0).toNat / 2 ^ o % 2 ^ n, 8 * i + o + n) := by
  unfold num
  rw [if_pos (by omega), ← stream_at bs h i, show (256 : Nat) = 2 ^ 8 by rfl, bits_div _ _ _ _ (by omega), bits_mod _ _ _ _ (by omega)]
theorem num_two {bs : List Int} (h : ∀ x ∈ bs, 0 ≤ x ∧ x ≤ 255) (i : Nat) (hi : i + 1 < bs.length) : num (streamN bs) (8 * bs.length) (8 * i) 16 = .ok ((bs[i]?.getD 0).toNat + 256 * (bs[i + 1]?.getD 0).toNat, 8 * i + 16) := by
  unfold num
  rw [if_pos (by omega), show (16 : Nat) = 8 + 8 by rfl, bits_split, ← stream_at bs h i, ← stream_at bs h (i + 1), show 8 * (i + 1) = 8 * i + 8 by omega]
def empty5 : List Int := [0, 0, 0, 255, 255]
theorem ahead_one (b : List Int) (hb : ∀ x ∈ b, 0 ≤ x ∧ x ≤ 255) (most : Nat) : rawOf (empty5 ++ b) most = sh1 40 (rawOf b most) := by
  have hx : ∀ x ∈ empty5 ++ b, 0 ≤ x ∧ x ≤ 255 := fun x hx => by
    rcases List.mem_append.1 hx with h | h
    · simp [empty5] at h; omega
    · exact hb x h
  have hlen : (empty5 ++ b).length = 5 + b.length := by rw [List.length_append]; rfl
  have hs : stepR (empty5 ++ b) (streamN (empty5 ++ b)) (8 * (empty5 ++ b).length) most 0 [] = .ok (0, 40, []) := by
    have g0 : (empty5 ++ b)[0]?.getD 0 = 0 := by simp [empty5]
    have g1 : (empty5 ++ b)[1]?.getD 0 = 0 := by simp [empty5]
    have g2 : (empty5 ++ b)[1 + 1]?.getD 0 = 0 := by simp [empty5]
    have g3 : (empty5 ++ b)[3]?.getD 0 = 255 := by simp [empty5]
    have g4 : (empty5 ++ b)[3 + 1]?.getD 0 = 255 := by simp [empty5]
    have k1 : num (streamN (empty5 ++ b)) (8 * (empty5 ++ b).length) 0 1 = .ok (0, 1) := by
      have := num_byte hx 0 (by omega) 1 0 (by omega)
      rw [g0] at this; exact this
    have k2 : num (streamN (empty5 ++ b)) (8 * (empty5 ++ b).length) 1 2 = .ok (0, 3) := by
      have := num_byte hx 0 (by omega) 2 1 (by omega)
      rw [g0] at this; exact this
    have k3 : num (streamN (empty5 ++ b)) (8 * (empty5 ++ b).length) 8 16 = .ok (0, 24) := by
      have := num_two hx 1 (by omega)
      rw [g1, g2] at this; exact this
    have k4 : num (streamN (empty5 ++ b)) (8 * (empty5 ++ b).length) 24 16 = .ok (65535, 40) := by
      have := num_two hx 3 (by omega)
      rw [g3, g4] at this; exact this
    have h2 : blockN (empty5 ++ b) (streamN (empty5 ++ b)) (8 * (empty5 ++ b).length) most 0 3 [] = .ok (40, []) := by
      unfold blockN
      rw [if_pos rfl, storedN, show 8 * ((3 + 7) / 8) = 8 by rfl, k3]
      simp only []
      rw [k4]
      simp only []
      rw [if_neg (by omega), if_neg (by omega), if_neg (by omega)]
      simp
    unfold stepR
    rw [k1]
    simp only []
    rw [k2]
    simp only []
    rw [h2]
  rw [rawOf_at, rawAt_step (Nat.zero_le _), hs]
  show rawAt (empty5 ++ b) (streamN (empty5 ++ b)) most (0 + 8 * empty5.length) [] = _
  rw [raw_shift empty5 b (by decide)]; rfl
def emptyN : Nat → List Int
  | 0 => []
  | t + 1 => emptyN t ++ empty5
theorem emptyN_len : ∀ t, (emptyN t).length = 5 * t
  | 0 => rfl
  | t + 1 => by rw [emptyN, List.length_append, emptyN_len t]; show 5 * t + 5 = _; omega
theorem emptyN_range : ∀ t, ∀ x ∈ emptyN t, 0 ≤ x ∧ x ≤ 255
  | 0, x, h => by simp [emptyN] at h
  | t + 1, x, h => by
    rcases List.mem_append.1 h with h | h
    · exact emptyN_range t x h
    · simp [empty5] at h; omega
theorem ahead_many : ∀ (t : Nat) (b : List Int), (∀ x ∈ b, 0 ≤ x ∧ x ≤ 255) → ∀ most, rawOf (emptyN t ++ b) most = sh1 (40 * t) (rawOf b most)
  | 0, b, hb, most => by
    show rawOf b most = _
    cases rawOf b most <;> rfl
  | t + 1, b, hb, most => by
    rw [emptyN, List.append_assoc, ahead_many t (empty5 ++ b) (fun x hx => by
      rcases List.mem_append.1 hx with h | h
      · simp [empty5] at h; omega
      · exact hb x h), ahead_one b hb]
    cases rawOf b most with
    | error e => rfl
    | ok v => obtain ⟨q, m⟩ := v; simp only [sh1, Except.ok.injEq, Prod.mk.injEq, and_true]; omega
end Plain
end Go.Proofs.YtglgchjkonjpiaaGreatDoor
