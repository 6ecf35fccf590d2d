/- Slices of bytes in the machine's memory: what their elements are, through calls that write nothing of them; literals; appends to rows of the call's own; as text. -/
import Derived.Test.YtkpiinjhcckhfaaGreatDoorRows
import Derived.WalkKit
import Derived.ProofKit
import Derived.OpenShut
import Derived.Below
import Derived.LoopN
import Derived.Lib.SmallJoins
import Derived.Laws.BytesArg
import Derived.Laws.AppendOwnNone
import Derived.Deep.AppendLies
import Derived.Deep.MidRow
import Derived.Deep.Upon
import Derived.OrdersHeld
import Derived.Deep.RegionHeld3
/-! Slices of bytes in the machine's memory: what their elements are, through calls that write nothing of them; literals; appends to rows of the call's own; as text. -/
namespace Go.Proofs.YtkpiinjhcckhfaaGreatDoor
open Go.RowKit
set_option linter.unusedVariables false

theorem ret_u32 {a b : Int} (h : a = b) : Ending.returned (.int .u32 a) = .returned (.int .u32 b) := by rw [h]
/-- The bytes that a slice's elements are. -/
def Bytes (w : World) (a : Option Addr) (len : Nat) (xs : List Int) : Prop :=
  xs.length = len ∧ len ≤ 9223372036854775807 ∧ (∀ j : Nat, 0 ≤ xs[j]?.getD 0 ∧ xs[j]?.getD 0 ≤ 255) ∧ (len = 0 ∨ ∃ b off, a = some ⟨b, off, none⟩ ∧ ∀ j, j < len → w.cell? ⟨b, off + j, none⟩ = some (.int .u8 (xs[j]?.getD 0)))

theorem Bytes.below {w w' : World} {a : Option Addr} {len : Nat} {xs : List Int} (h : Bytes w a len xs) (hb : Below w.heap.size w w') : Bytes w' a len xs := by
  obtain ⟨h1, h2, h3, h4 | ⟨b, off, rfl, hc⟩⟩ := h
  · exact ⟨h1, h2, h3, .inl h4⟩
  · refine ⟨h1, h2, h3, .inr ⟨b, off, rfl, fun j hj => ?_⟩⟩
    have hlt : b < w.heap.size := by
      rcases Nat.lt_or_ge b w.heap.size with h | h
      · exact h
      · have := hc j hj
        simp [World.cell?, Array.getElem?_eq_none h] at this
    rw [hb.cell (p := ⟨b, off + j, none⟩) hlt]
    exact hc j hj
theorem Bytes.sub {w : World} {b off len : Nat} {xs : List Int} (h : Bytes w (some ⟨b, off, none⟩) len xs) (lo n : Nat) (hn : lo + n ≤ len) : Bytes w (some ⟨b, off + lo, none⟩) n ((xs.drop lo).take n) := by
  obtain ⟨h1, h2, h3, h4⟩ := h
  have e : ∀ j, j < n → ((xs.drop lo).take n)[j]?.getD 0 = xs[lo + j]?.getD 0 := fun j hj => by rw [List.getElem?_take_of_lt hj, List.getElem?_drop]
  refine ⟨by simp; omega, by omega, fun j => ?_, ?_⟩
  · by_cases hj : j < n
    · rw [e j hj]; exact h3 _
    · rw [List.getElem?_eq_none (by simp; omega)]; simp
  · rcases h4 with h4 | ⟨b', off', ha, hc⟩
    · left; omega
    · simp only [Option.some.injEq, Addr.mk.injEq] at ha
      obtain ⟨rfl, rfl, -⟩ := ha
      exact .inr ⟨b, off + lo, rfl, fun j hj => by rw [e j hj, Nat.add_assoc]; exact hc _ (by omega)⟩
theorem Bytes.lt {w : World} {b off len : Nat} {xs : List Int} (h : Bytes w (some ⟨b, off, none⟩) len xs) (hl : 0 < len) : b < w.heap.size := by
  obtain ⟨h1, h2, h3, h4 | ⟨b', off', e, hc⟩⟩ := h
  · omega
  · simp only [Option.some.injEq, Addr.mk.injEq] at e
    obtain ⟨rfl, rfl, -⟩ := e
    have hc0 := hc 0 hl
    rcases Nat.lt_or_ge b w.heap.size with h | h
    · exact h
    · simp [World.cell?, Array.getElem?_eq_none h] at hc0
theorem Bytes.first {w : World} {a : Option Addr} {len : Nat} {xs : List Int} (h : Bytes w a len xs) (n : Nat) : Bytes w a (min len n) (xs.take n) := by
  obtain ⟨h1, h2, h3, h4⟩ := h
  have e : ∀ j, j < min len n → (xs.take n)[j]?.getD 0 = xs[j]?.getD 0 := fun j hj => by rw [List.getElem?_take_of_lt (by omega)]
  refine ⟨by rw [List.length_take]; omega, by omega, fun j => ?_, ?_⟩
  · by_cases hj : j < min len n
    · rw [e j hj]; exact h3 j
    · rw [List.getElem?_eq_none (by rw [List.length_take]; omega)]; simp
  · rcases h4 with h4 | ⟨b, off, ha, hc⟩
    · left; omega
    · exact .inr ⟨b, off, ha, fun j hj => by rw [e j hj]; exact hc j (by omega)⟩
/-! ### Rows of the call's own -/
theorem u8info : (Tryz.prog.info? 5).map (fun i => (i.zero, i.size, i.bytes)) = some (some (.int .u8 0), 1, 1) := by kernel_rfl
/-- A row of bytes that the call owns, from block 'base' on. -/
def Own (w : World) (base : Nat) (v : Value) (n : Nat) (xs : List Int) : Prop := w.ownsRow base 5 1 v n (xs.map (Value.int .u8))
theorem Own.shape {w : World} {base : Nat} {v : Value} {n : Nat} {xs : List Int} (h : Own w base v n xs) : ∃ a c, v = .slice a n c ∧ n ≤ c ∧ (a = none → c = 0) ∧ c ≤ 9223372036854775807 := by
  obtain ⟨h1, ⟨rfl, rfl⟩ | ⟨g, cap, cur, rfl, h3, h4, h5, h6, h7, h8⟩⟩ := h
  · exact ⟨none, 0, rfl, by omega, fun _ => rfl, by omega⟩
  · exact ⟨_, cap, rfl, h5, (fun e => by cases e), by unfold maxLen at h6; omega⟩
theorem Own.bytes {w : World} {base : Nat} {a : Option Addr} {n c : Nat} {xs : List Int} (h : Own w base (.slice a n c) n xs) (hx : ∀ j : Nat, 0 ≤ xs[j]?.getD 0 ∧ xs[j]?.getD 0 ≤ 255) : Bytes w a n xs := by
  obtain ⟨h1, h2⟩ := h
  have hl : xs.length = n := by simpa using h1
  rcases h2 with ⟨h3, rfl⟩ | ⟨g, cap, cur, h3, h4, h5, h6, h7, h8, h9⟩
  · exact ⟨hl, by omega, hx, .inl rfl⟩
  · simp only [Value.slice.injEq, true_and] at h3
    obtain ⟨rfl, rfl⟩ := h3
    refine ⟨hl, by unfold maxLen at h7; omega, hx, .inr ⟨g, 0, rfl, fun j hj => ?_⟩⟩
    have hj' : j < xs.length := by omega
    unfold World.cell?
    simp only [h5, Nat.zero_add]
    have e := congrArg (fun l => l[j]?) h9
    simp only [Nat.mul_one, List.getElem?_map, List.getElem?_eq_getElem hj', Option.map_some] at e
    rw [List.getElem?_take_of_lt hj, Array.getElem?_toList] at e
    simpa [List.getElem?_eq_getElem hj'] using e
theorem Own.below {w w' : World} {base : Nat} {v : Value} {n : Nat} {xs : List Int} (h : Own w base v n xs) (hb : Below w.heap.size w w') : Own w' base v n xs := by
  obtain ⟨h1, h2 | ⟨g, cap, cur, h3, h4, h5, h6⟩⟩ := h
  · exact ⟨h1, .inl h2⟩
  · refine ⟨h1, .inr ⟨g, cap, cur, h3, h4, ?_, h6⟩⟩
    rw [hb.block g (by
      rcases Nat.lt_or_ge g w.heap.size with h | h
      · exact h
      · simp [Array.getElem?_eq_none h] at h5)]
    exact h5
/-- What an append to a row of the call's own leaves below 'base'. -/
theorem Own.kept {w w' : World} {base : Nat} {v : Value} {n : Nat} {xs : List Int} (h : Own w base v n xs) (hbase : base ≤ w.heap.size) (hg : w.grownBy w' v.ownBlock) : Below base w w' := by
  refine (Below.refl base w).grown hg hbase fun k hk => ?_
  obtain ⟨h1, ⟨rfl, rfl⟩ | ⟨g, cap, cur, rfl, h4, h5⟩⟩ := h
  · cases hk
  · simp only [Value.ownBlock, Option.some.injEq] at hk; omega
theorem Own.cell {w : World} {base g n c : Nat} {xs : List Int} (h : Own w base (.slice (some ⟨g, 0, none⟩) n c) n xs) (j : Nat) (hj : j < n) : w.cell? ⟨g, j, none⟩ = some (.int .u8 (xs[j]?.getD 0)) := by
  obtain ⟨h1, h2⟩ := h
  have hl : xs.length = n := by simpa using h1
  rcases h2 with ⟨h3, -⟩ | ⟨g', cap, cur, h3, h4, h5, h6, h7, h8, h9⟩
  · cases h3
  · simp only [Value.slice.injEq, Option.some.injEq, Addr.mk.injEq, and_true, true_and] at h3
    obtain ⟨rfl, rfl⟩ := h3
    have hj' : j < xs.length := by omega
    unfold World.cell?
    simp only [h5]
    have e := congrArg (fun l => l[j]?) h9
    simp only [Nat.mul_one, List.getElem?_map, List.getElem?_eq_getElem hj', Option.map_some] at e
    rw [List.getElem?_take_of_lt hj, Array.getElem?_toList] at e
    simpa [List.getElem?_eq_getElem hj'] using e
theorem Own.other {w : World} {base g n c : Nat} {xs : List Int} (h : Own w base (.slice (some ⟨g, 0, none⟩) n c) n xs) (p : Addr) (hp : p.block ≠ g) (u : Value) : Own (w.setCell p u) base (.slice (some ⟨g, 0, none⟩) n c) n xs := by
  obtain ⟨h1, ⟨h2, -⟩ | ⟨g', cap, cur, h2, h3, h4, h5⟩⟩ := h
  · cases h2
  · simp only [Value.slice.injEq, Option.some.injEq, Addr.mk.injEq, and_true, true_and] at h2
    obtain ⟨rfl, rfl⟩ := h2
    exact ⟨h1, .inr ⟨g, c, cur, rfl, h3, by rw [Below.heap_setCell _ _ _ _ (by omega)]; exact h4, h5⟩⟩
theorem Own.drew {w : World} {base : Nat} {v : Value} {n : Nat} {xs : List Int} (h : Own w base v n xs) : Own w.drew base v n xs := h
def numOf : Option Value → Int
  | some (.int _ z) => z
  | _ => 0
theorem Own.empty (w : World) : Own (w.alloc (.cells #[] 5)) w.heap.size (.slice (some ⟨w.heap.size, 0, none⟩) 0 0) 0 [] :=
  ⟨rfl, .inr ⟨w.heap.size, 0, #[], rfl, Nat.le_refl _, by show (w.heap.push _)[w.heap.size]? = _; simp, Nat.le_refl _, by unfold maxLen; omega, rfl, rfl⟩⟩

/-! ### Bytes as text -/
theorem text_run (w : World) (a : Option Addr) (n c : Nat) (xs : List Int) (H : Bytes w a n xs) : (convert 71 9 (.slice a n c)).run Tryz.prog w = .ok (.string (strOfNums xs)) w := by
  obtain ⟨h1, h2, h3, h4⟩ := H
  rcases h4 with rfl | ⟨b, off, rfl, hc⟩
  · obtain rfl : xs = [] := List.eq_nil_of_length_eq_zero h1
    cases a with
    | none => exact run_convert_bytes_nil (P := Tryz.prog) w 71 5 Tryz.underlying71 Tryz.underlying5 0 c 9 Tryz.underlying9
    | some x =>
      rw [run_convert_bytes_string w 71 9 5 _ 0 c Tryz.underlying71 Tryz.underlying5 Tryz.underlying9, run_bytesToString w x 0 c [] (by simpa using run_loadCells_list (P := Tryz.prog) w x [] (by simp))]
      rfl
  · exact run_convert_bytes_arg (P := Tryz.prog) w 71 5 Tryz.underlying71 Tryz.underlying5 b off n c xs h1 (fun i hi => by rw [hc i hi, List.getD_eq_getElem?_getD]) 9 Tryz.underlying9
/-! ### A new slice of noughts -/
end Go.Proofs.YtkpiinjhcckhfaaGreatDoor
/-! A slice of bytes of the call's own, anywhere in its block; append of bytes and of texts. -/
namespace Go.Proofs.YtkpiinjhcckhfaaGreatDoor
open Go.RowKit
set_option linter.unusedVariables false
def U8 (xs : List Int) : List Value := xs.map (Value.int .u8)
theorem U8_length (xs : List Int) : (U8 xs).length = xs.length := List.length_map ..
theorem U8_one (xs : List Int) : ∀ u ∈ U8 xs, u.oneCell' = true := fun u hu => by
  obtain ⟨y, -, rfl⟩ := List.mem_map.1 hu; rfl
/-- A slice of bytes in the call's own memory, anywhere in its block. -/
def Mid (w : World) (base : Nat) (v : Value) (n : Nat) (xs : List Int) : Prop :=
  xs.length = n ∧ ((v = .slice none 0 0 ∧ n = 0) ∨
    ∃ g o cap, v = .slice (some ⟨g, o, none⟩) n cap ∧ base ≤ g ∧ g < w.heap.size ∧ n ≤ cap ∧ cap ≤ 9223372036854775807 ∧ w.rangeAt g o (U8 xs) ∧ w.there g o cap)
theorem Mid.nil (w : World) (base : Nat) : Mid w base (.slice none 0 0) 0 [] := ⟨rfl, .inl ⟨rfl, rfl⟩⟩
theorem rangeAt_block {w w' : World} {g o : Nat} {cs : List Value} (h : w.rangeAt g o cs) (hb : w'.heap[g]? = w.heap[g]?) : w'.rangeAt g o cs := fun j v hv => by
  rw [World.cell?_of_block (w := w) (w' := w') (a := ⟨g, o + j, none⟩) hb]; exact h j v hv
theorem there_block {w w' : World} {g o n : Nat} (h : w.there g o n) (hb : w'.heap[g]? = w.heap[g]?) : w'.there g o n := fun j hj => by
  rw [World.cell?_of_block (w := w) (w' := w') (a := ⟨g, o + j, none⟩) hb, World.frozen?_of_block (w := w) (w' := w') (a := ⟨g, o + j, none⟩) hb]; exact h j hj
theorem Mid.kept {w w' : World} {base : Nat} {v : Value} {n : Nat} {xs : List Int} {row : Option Nat} (h : Mid w base v n xs) (hg : w.grownBy w' row) (hne : v.ownBlock = none ∨ v.ownBlock ≠ row) : Mid w' base v n xs := by
  obtain ⟨h1, h2 | ⟨g, o, cap, rfl, hb, hlt, hn, hc, hr, ht⟩⟩ := h
  · exact ⟨h1, .inl h2⟩
  · have hbl : w'.heap[g]? = w.heap[g]? := hg.block g hlt (by
      rcases hne with h | h
      · cases h
      · exact h)
    exact ⟨h1, .inr ⟨g, o, cap, rfl, hb, Nat.lt_of_lt_of_le hlt hg.size, hn, hc, rangeAt_block hr hbl, there_block ht hbl⟩⟩
theorem Mid.below {w w' : World} {base : Nat} {v : Value} {n : Nat} {xs : List Int} (h : Mid w base v n xs) (hb : Below w.heap.size w w') : Mid w' base v n xs :=
  h.kept (row := none) ⟨hb.os, hb.tape, hb.output, hb.size, fun k hk _ => hb.block k hk⟩ (by
    cases hv : v.ownBlock with
    | none => exact .inl rfl
    | some k => exact .inr (by simp))
theorem Mid.lower {w : World} {base base' : Nat} {v : Value} {n : Nat} {xs : List Int} (h : Mid w base v n xs) (hb : base' ≤ base) : Mid w base' v n xs := by
  obtain ⟨h1, h2 | ⟨g, o, cap, h3, h4, h5⟩⟩ := h
  · exact ⟨h1, .inl h2⟩
  · exact ⟨h1, .inr ⟨g, o, cap, h3, Nat.le_trans hb h4, h5⟩⟩
theorem Mid.shape {w : World} {base : Nat} {v : Value} {n : Nat} {xs : List Int} (h : Mid w base v n xs) : ∃ a c, v = .slice a n c ∧ n ≤ c ∧ (a = none → c = 0) ∧ c ≤ 9223372036854775807 := by
  obtain ⟨h1, ⟨rfl, rfl⟩ | ⟨g, o, cap, rfl, hb, hlt, hn, hc, hr, ht⟩⟩ := h
  · exact ⟨none, 0, rfl, Nat.le_refl _, fun _ => rfl, by omega⟩
  · exact ⟨_, cap, rfl, hn, fun h => (by cases h), hc⟩
theorem Mid.bytes {w : World} {base : Nat} {a : Option Addr} {n c : Nat} {xs : List Int} (h : Mid w base (.slice a n c) n xs) (hx : ∀ j : Nat, 0 ≤ xs[j]?.getD 0 ∧ xs[j]?.getD 0 ≤ 255) : Bytes w a n xs := by
  obtain ⟨h1, ⟨h2, rfl⟩ | ⟨g, o, cap, h2, hb, hlt, hn, hc, hr, ht⟩⟩ := h
  · exact ⟨h1, by omega, hx, .inl rfl⟩
  · simp only [Value.slice.injEq] at h2
    obtain ⟨rfl, -, rfl⟩ := h2
    refine ⟨h1, by omega, hx, .inr ⟨g, o, rfl, fun j hj => hr j _ ?_⟩⟩
    unfold U8
    rw [List.getElem?_map, List.getElem?_eq_getElem (by omega)]
    rfl
theorem Mid.off {w : World} {base : Nat} {v : Value} {n : Nat} {xs : List Int} (h : Mid w base v n xs) (hbase : base ≤ w.heap.size) {w' : World} (hg : w.grownBy w' v.ownBlock) : Below base w w' := by
  refine (Below.refl base w).grown hg hbase fun k hk => ?_
  obtain ⟨h1, ⟨rfl, rfl⟩ | ⟨g, o, cap, rfl, hb, -⟩⟩ := h
  · cases hk
  · simp only [Value.ownBlock, Option.some.injEq] at hk; omega
end Go.Proofs.YtkpiinjhcckhfaaGreatDoor
/-! Parts of a slice of bytes. -/
namespace Go.Proofs.YtkpiinjhcckhfaaGreatDoor
open Go.RowKit
set_option linter.unusedVariables false
/-- The address behind 'a[l:]'. -/
def subA (a : Option Addr) (cap l : Nat) : Option Addr := if cap = l then a else a.map (·.add l)
theorem Bytes.part {w : World} {a : Option Addr} {m : Nat} {xs : List Int} (h : Bytes w a m xs) (cap lo hi : Nat) (h1 : lo ≤ hi) (h2 : hi ≤ m) (h3 : m ≤ cap) : Bytes w (subA a cap lo) (hi - lo) ((xs.drop lo).take (hi - lo)) := by
  by_cases h0 : hi = lo
  · subst h0
    rw [Nat.sub_self, List.take_zero]
    exact ⟨rfl, by omega, by simp, .inl rfl⟩
  · have hm : m ≠ 0 := by omega
    obtain ⟨b, off, rfl⟩ : ∃ b off, a = some ⟨b, off, none⟩ := by
      rcases h.2.2.2 with h | ⟨b, off, rfl, -⟩
      · exact absurd h hm
      · exact ⟨b, off, rfl⟩
    have e : subA (some ⟨b, off, none⟩) cap lo = some ⟨b, off + lo, none⟩ := by
      unfold subA
      rw [if_neg (by omega)]
      show some (Addr.add _ _) = _
      unfold Addr.add
      split <;> simp_all
    rw [e]
    exact h.sub lo (hi - lo) (by omega)
/-- A row of parts that the call owns, read. -/
theorem subA_nil {a : Option Addr} {cap l : Nat} (h : a = none → cap = 0) : subA a cap l = none → cap - l = 0 := by
  intro e
  unfold subA at e
  split at e
  · omega
  · cases a with
    | none => have := h rfl; omega
    | some x => cases e
end Go.Proofs.YtkpiinjhcckhfaaGreatDoor
/-! The moves of a drawn region, with their side conditions taken by themselves. -/
namespace Go.Proofs.YtkpiinjhcckhfaaGreatDoor
theorem tkY {P : Program} {ops : Array Oper} {Q : Exit → Act → World → Prop} {md : Region.Mode} {S : World → Prop} (i : Nat) {oi : Oper} {v : Value} {fuel : Nat} {listed : Array Bool} {a : Act} {w : World}
    (hi : ops[i]? = some oi := by (simp only [List.getElem?_toArray, List.getElem?_cons_succ, List.getElem?_cons_zero]; rfl)) (hs : Region.noSelect ops = true := by kernel_rfl) (hf : Region.free md ops listed i = true := by kernel_rfl) (hr : (Region.ready md ops listed).contains i = true := by kernel_rfl)
    (hQ : ∀ c a w, Q (.panic c) (a.put oi.dst v) w → Q (.panic c) a w := by exact fun _ _ _ h => h) (hy : YieldsIf P ops S oi v a) (hS : S w := by assumption)
    (h : wpAnyH P md ops Q S fuel (listed.setIfInBounds i true) (a.put oi.dst v) w) : wpAnyH P md ops Q S (fuel + 1) listed a w := wpAnyH_take hi hs hf hr hQ hy hS h
theorem tkV {P : Program} {ops : Array Oper} {Q : Exit → Act → World → Prop} {md : Region.Mode} {S : World → Prop} (i : Nat) {oi : Oper} {v : Value} {fuel : Nat} {listed : Array Bool} {a : Act} {w : World}
    (hi : ops[i]? = some oi := by (simp only [List.getElem?_toArray, List.getElem?_cons_succ, List.getElem?_cons_zero]; rfl)) (hs : Region.noSelect ops = true := by kernel_rfl) (hf : Region.free md ops listed i = true := by kernel_rfl) (hr : (Region.ready md ops listed).contains i = true := by kernel_rfl)
    (hQ : ∀ c a w, Q (.panic c) (a.put oi.dst v) w → Q (.panic c) a w := by exact fun _ _ _ h => h) (hw0 : Region.wanted oi (yielded ops a.tmps) = true := by rfl) (hw : ∀ W, S W → (execOp a.eval oi).run P W = .ok (.value v) W) (hS : S w := by assumption)
    (h : wpAnyH P md ops Q S fuel (listed.setIfInBounds i true) (a.put oi.dst v) w) : wpAnyH P md ops Q S (fuel + 1) listed a w := wpAnyH_take hi hs hf hr hQ (.inl ⟨hw0, hw⟩) hS h
theorem tkN {P : Program} {ops : Array Oper} {Q : Exit → Act → World → Prop} {md : Region.Mode} {S : World → Prop} (i : Nat) {oi : Oper} {fuel : Nat} {listed : Array Bool} {a : Act} {w : World}
    (hi : ops[i]? = some oi := by (simp only [List.getElem?_toArray, List.getElem?_cons_succ, List.getElem?_cons_zero]; rfl)) (hs : Region.noSelect ops = true := by kernel_rfl) (hf : Region.free md ops listed i = true := by kernel_rfl) (hr : (Region.ready md ops listed).contains i = true := by kernel_rfl)
    (hQ : ∀ c a w, Q (.panic c) (a.put oi.dst undef) w → Q (.panic c) a w := by exact fun _ _ _ h => h) (hw0 : Region.wanted oi (yielded ops a.tmps) = false := by rfl) (hS : S w := by assumption)
    (h : wpAnyH P md ops Q S fuel (listed.setIfInBounds i true) (a.put oi.dst undef) w) : wpAnyH P md ops Q S (fuel + 1) listed a w := wpAnyH_take hi hs hf hr hQ (.inr ⟨hw0, rfl⟩) hS h
end Go.Proofs.YtkpiinjhcckhfaaGreatDoor
