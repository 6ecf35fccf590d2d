/- Rows of numbers that came in; one row more in a row of rows. -/
import Derived.Test.YthadgepihjigeaaRefClosed
import Derived.ChangeArms
import Derived.ChangeSlices
import Derived.OpenShut
import Derived.ChangeAt
import Derived.Deep.Matrix
import Derived.Deep.RegionHeld3
import Derived.Deep.AppendLies
namespace Go.Proofs.Ythadgepihjigeaa
open Go.RowKit Plain Go.ChangeShapes Go.WideShapes Go.ChangeAt Go.Deep
set_option linter.unusedVariables false
/-- A row as it came in, or cut from one. -/
structure RwIn (w : World) (p : Rw) : Prop where
  le : p.xs.length ≤ p.cap
  max : p.cap ≤ 9223372036854775807
  ints : IntsAt w p.a p.xs
  nil : p.a = none → p.cap = 0
  i64 : ∀ x ∈ p.xs, -9223372036854775808 ≤ x ∧ x ≤ 9223372036854775807
structure GraphIn (w : World) (a : Option Addr) (n : Nat) (ps : List Rw) : Prop where
  len : ps.length = n
  rows : n = 0 ∨ ∃ b off, a = some ⟨b, off, none⟩ ∧ ∀ j p, ps[j]? = some p → w.cell? ⟨b, off + j, none⟩ = some (hdr p)
  each : ∀ p ∈ ps, RwIn w p
theorem GraphIn.graph {w : World} {a : Option Addr} {n : Nat} {ps : List Rw} (h : GraphIn w a n ps) : Graph w a n ps := ⟨h.len, h.rows, fun p hp => (h.each p hp).ints⟩
theorem RwIn.below {w w' : World} {p : Rw} (h : RwIn w p) (hb : Below w.heap.size w w') : RwIn w' p := ⟨h.le, h.max, h.ints.below hb, h.nil, h.i64⟩
theorem GraphIn.below {w w' : World} {a : Option Addr} {n : Nat} {ps : List Rw} (h : GraphIn w a n ps) (hb : Below w.heap.size w w') : GraphIn w' a n ps :=
  ⟨h.len, (h.graph.below hb).rows, fun p hp => (h.each p hp).below hb⟩
theorem plain_add (b o i : Nat) : (⟨b, o, none⟩ : Addr).add i = ⟨b, o + i, none⟩ := by unfold Addr.add; split <;> simp_all
theorem spot_none {w : World} {x : Addr} {v : Value} (h : w.cell? (x.add 0) = some v) : x.spot = none := by
  simpa [Addr.add] using World.cell?_spot h
/-- A row of numbers that came in. -/
theorem ints_open {w : World} {A : Option Addr} {L C : Nat} {Z : List Int} (hl : L ≤ C) (hC : C ≤ maxLen) (hz : Z.length = C) (hw : ∀ n ∈ Z, (Lit.int .i64 n).wf = true) (hn : A = none → C = 0)
    (hc : ∀ a', A = some a' → ∀ c, c < C → w.cell? (a'.add c) = some (.int .i64 (Z.getD c 0))) : RwIn w ⟨A, C, Z.take L⟩ ∧ (Z.take L).length = L := by
  have hlen : (Z.take L).length = L := by rw [List.length_take]; omega
  refine ⟨⟨by show (Z.take L).length ≤ C; omega, by unfold maxLen at hC; show C ≤ _; omega, ?_, hn, fun x hx => ?_⟩, hlen⟩
  · show IntsAt w A (Z.take L)
    by_cases h0 : L = 0
    · exact .inl (by omega)
    · cases A with
      | none => exact absurd (hn rfl) (by omega)
      | some x =>
        obtain ⟨b, off, spot⟩ := x
        have q0 := hc _ rfl 0 (by omega)
        have hspot := spot_none q0
        simp only at hspot
        subst hspot
        refine .inr ⟨b, off, rfl, fun j hj => ?_⟩
        have q := hc _ rfl j (by omega)
        rw [plain_add] at q
        rw [q]
        unfold at0
        rw [List.getElem?_take_of_lt (by omega), List.getD_eq_getElem?_getD]
  · have := hw x (List.mem_of_mem_take hx)
    simpa [Lit.wf, IntKind.min, IntKind.max, IntKind.signed, IntKind.bits] using this
theorem open_graph {H : Type} {enc : TypeId × Value → H} {w : World} {base b0 : Nat} {held : Bool} {r : Reach} {v : Value} {d : DataW H} {p : List MemPlace}
    (hv : Value.okWide Try.prog w r b0 22 v) (h : DataW.Trod enc Try.prog w base (fun _ => true) held 22 v d p) :
    ∃ (a : Option Addr) (len cap : Nat) (ps : List Rw), v = .slice a len cap ∧ len ≤ 9223372036854775807 ∧ GraphIn w a len ps := by
  obtain ⟨a, len, cap, rfl⟩ := okWide_slice Try.underlying22 hv
  obtain ⟨fuel, hf⟩ := h
  rcases open_int_rows Try.underlying22 Try.underlying24 Try.underlying3 (by kernel_rfl) (by kernel_rfl) hf with ⟨hcs, -⟩ | ⟨x, len', cap', A, L, C, Z, hcs, -, hl, hm, -, hel⟩
  · simp [Value.cells] at hcs
    obtain ⟨rfl, rfl, rfl⟩ := hcs
    exact ⟨none, 0, 0, [], rfl, by omega, rfl, .inl rfl, by simp⟩
  · simp [Value.cells] at hcs
    obtain ⟨rfl, rfl, rfl⟩ := hcs
    have each : ∀ j, j < len → RwIn w ⟨A j, C j, (Z j).take (L j)⟩ ∧ ((Z j).take (L j)).length = L j := fun j hj => by
      obtain ⟨-, h1, h2, h3, h4, h5, h6⟩ := hel j (by omega)
      exact ints_open h1 h2 h3 h4 h5 fun a' ha c hc => (h6 a' ha).2 c hc
    refine ⟨some x, len, cap, (List.range len).map fun j => ⟨A j, C j, (Z j).take (L j)⟩, rfl, by unfold maxLen at hm; omega, by simp, ?_, fun p hp => ?_⟩
    · by_cases h0 : len = 0
      · exact .inl h0
      · obtain ⟨b, off, spot⟩ := x
        have hspot := spot_none (hel 0 (by omega)).1
        simp only at hspot
        subst hspot
        refine .inr ⟨b, off, rfl, fun j p hj => ?_⟩
        have hjl : j < len := by
          have := List.getElem?_eq_some_iff.1 hj
          obtain ⟨h1, -⟩ := this
          simpa using h1
        rw [List.getElem?_map, List.getElem?_range hjl] at hj
        injection hj with hj
        subst hj
        have q := (hel j (by omega)).1
        rw [plain_add] at q
        rw [q]
        unfold hdr
        simp only [(each j hjl).2]
    · obtain ⟨j, hj, rfl⟩ := List.mem_map.1 hp
      exact (each j (List.mem_range.1 hj)).1
theorem row_parts : ∃ i, Try.prog.info? 24 = some i ∧ i.zero = some (.slice none 0 0) ∧ i.size = 1 ∧ i.bytes = 24 := by
  have h := rowinfo
  cases hi : Try.prog.info? 24 with
  | none => rw [hi] at h; cases h
  | some i =>
    rw [hi] at h
    simp only [Option.map_some, Option.some.injEq, Prod.mk.injEq] at h
    exact ⟨i, rfl, h.1, h.2.1, h.2.2⟩
theorem lit_val (w : World) (x : Value) (t : TypeId) : (w.alloc (.cells #[x] t)).cell? ⟨w.heap.size, 0, none⟩ = some x := by
  have h := heap_alloc_new w (.cells #[x] t)
  show (match (w.alloc (.cells #[x] t)).heap[w.heap.size]? with | some (.cells cs _ _) => cs[0]? | _ => none) = _
  rw [h]
  rfl
/-- append(v, row): one row more, in a row of the call's own. -/
theorem wpList_append_row {w : World} {ops : Array Oper} {rest : List Oper} {o : Oper} {ac : Act} {Q : Exit → Act → World → Prop} (hgd : o.guard = none) (s x : Operand)
    (ho : o.op = .call { callee := .builtin .append, args := #[s, x], argTypes := #[22, 22] })
    (base : Nat) (v : Value) (n : Nat) (xs : List Value) (hs : ac.eval s = v) (hown : w.ownsRow base 24 1 v n xs) (g0 : Nat) (y : Value) (hy9 : y.oneCell' = true) (hx : ac.eval x = .slice (some ⟨g0, 0, none⟩) 1 1) (hy : w.cell? ⟨g0, 0, none⟩ = some y)
    (hsum : n + 1 ≤ 100000001) (hbase : base ≤ w.heap.size)
    (h : ∀ g c w', w'.ownsRow base 24 1 (.slice (some ⟨g, 0, none⟩) (n + 1) c) (n + 1) (xs ++ [y]) → w.grownBy w' v.ownBlock → (v.ownBlock = some g ∨ g = w.heap.size) → g < w'.heap.size → wpList Try.prog ops Q rest (ac.put o.dst (.slice (some ⟨g, 0, none⟩) (n + 1) c)) w') : wpList Try.prog ops Q (o :: rest) ac w := by
  obtain ⟨i, hi, hz, h1, h8⟩ := row_parts
  refine wpList_append_lies w hgd s x 22 ho base 24 i (.slice none 0 0) 1 24 Try.underlying22 hi hz h1 h8 rfl (by omega) v n xs hs hown ⟨g0, 0, none⟩ 1 1 [y] hx rfl ?_ ?_ (by omega) (by unfold maxLen; omega) (by omega) hbase _ rfl fun g c w' a1 a2 a3 a4 => ?_
  · intro j u hu
    match j, hu with
    | 0, hu =>
      have e : (⟨g0, 0, none⟩ : Addr).add 0 = ⟨g0, 0, none⟩ := by unfold Addr.add; simp
      rw [e, hy]
      exact hu
  · intro u hu
    rw [List.mem_singleton] at hu
    subst hu
    exact hy9
  · exact h g c w' a1 a2 a3 a4
/-- The same at a step of a region that draws its order. -/
theorem step_append_row {w : World} {ops : Array Oper} {o : Oper} {ac : Act} {K : Act → World → Prop} {Q : Exit → Act → World → Prop} {E : Prop} (hgd : o.guard = none) (s x : Operand)
    (ho : o.op = .call { callee := .builtin .append, args := #[s, x], argTypes := #[22, 22] })
    (base : Nat) (v : Value) (n : Nat) (xs : List Value) (hs : ac.eval s = v) (hown : w.ownsRow base 24 1 v n xs) (g0 : Nat) (y : Value) (hy9 : y.oneCell' = true) (hx : ac.eval x = .slice (some ⟨g0, 0, none⟩) 1 1) (hy : w.cell? ⟨g0, 0, none⟩ = some y)
    (hsum : n + 1 ≤ 100000001) (hbase : base ≤ w.heap.size)
    (h : ∀ g c w', w'.ownsRow base 24 1 (.slice (some ⟨g, 0, none⟩) (n + 1) c) (n + 1) (xs ++ [y]) → w.grownBy w' v.ownBlock → (v.ownBlock = some g ∨ g = w.heap.size) → g < w'.heap.size → K (ac.put o.dst (.slice (some ⟨g, 0, none⟩) (n + 1) c)) w') :
    if Region.wanted o (yielded ops ac.tmps) = true then Oper.wp Try.prog o ac w K Q else E := by
  obtain ⟨i, hi, hz, h1, h8⟩ := row_parts
  refine step_append_lies w hgd s x 22 ho base 24 i (.slice none 0 0) 1 24 Try.underlying22 hi hz h1 h8 rfl (by omega) v n xs hs hown ⟨g0, 0, none⟩ 1 1 [y] hx rfl ?_ ?_ (by omega) (by unfold maxLen; omega) (by omega) hbase _ rfl fun g c w' a1 a2 a3 a4 => ?_
  · intro j u hu
    match j, hu with
    | 0, hu =>
      have e : (⟨g0, 0, none⟩ : Addr).add 0 = ⟨g0, 0, none⟩ := by unfold Addr.add; simp
      rw [e, hy]
      exact hu
  · intro u hu
    rw [List.mem_singleton] at hu
    subst hu
    exact hy9
  · exact h g c w' a1 a2 a3 a4
/-- append(v, x) at a step of a region that draws its order. -/
theorem step_append_one {w : World} {ops : Array Oper} {o : Oper} {ac : Act} {K : Act → World → Prop} {Q : Exit → Act → World → Prop} {E : Prop} (hgd : o.guard = none) (s x : Operand)
    (ho : o.op = .call { callee := .builtin .append, args := #[s, x], argTypes := #[24, 24] })
    (base : Nat) (v : Value) (n : Nat) (xs : List Int) (hs : ac.eval s = v) (hown : w.ownsRow base 3 1 v n (I64 xs)) (g0 : Nat) (y : Int) (hx : ac.eval x = .slice (some ⟨g0, 0, none⟩) 1 1) (hy : w.cell? ⟨g0, 0, none⟩ = some (.int .i64 y))
    (hsum : n + 1 ≤ 100000001) (hbase : base ≤ w.heap.size)
    (h : ∀ g c w', w'.ownsRow base 3 1 (.slice (some ⟨g, 0, none⟩) (n + 1) c) (n + 1) (I64 (xs ++ [y])) → w.grownBy w' v.ownBlock → (v.ownBlock = some g ∨ g = w.heap.size) → g < w'.heap.size → K (ac.put o.dst (.slice (some ⟨g, 0, none⟩) (n + 1) c)) w') :
    if Region.wanted o (yielded ops ac.tmps) = true then Oper.wp Try.prog o ac w K Q else E := by
  obtain ⟨i, hi, hz, h1, h8⟩ := int_parts
  refine step_append_lies w hgd s x 24 ho base 3 i (.int .i64 0) 1 8 Try.underlying24 hi hz h1 h8 rfl (by omega) v n (I64 xs) hs hown ⟨g0, 0, none⟩ 1 1 [.int .i64 y] hx rfl ?_ ?_ (by omega) (by unfold maxLen; omega) (by omega) hbase _ rfl fun g c w' a1 a2 a3 a4 => ?_
  · intro j u hu
    match j, hu with
    | 0, hu =>
      have e : (⟨g0, 0, none⟩ : Addr).add 0 = ⟨g0, 0, none⟩ := by unfold Addr.add; simp
      rw [e, hy]
      exact hu
  · intro u hu
    rw [List.mem_singleton] at hu
    subst hu
    rfl
  · have e : I64 (xs ++ [y]) = I64 xs ++ [.int .i64 y] := by unfold I64; rw [List.map_append]; rfl
    exact h g c w' (by rw [e]; exact a1) a2 a3 a4
theorem slice_ints (a : Option Addr) (m cap hi : Nat) (h2 : hi ≤ cap) (w : World) :
    (Instr.sliceAt 24 (.slice a m cap) none (some (.int .i64 (hi : Int))) none).run Try.prog w = .ok (.slice a hi cap) w := by
  have hsz : ∀ W : World, (sizeOf (Try.prog.elem 24)).run Try.prog W = .ok 1 W := fun W => by kernel_rfl
  have h0 : ∀ x : Addr, x.add 0 = x := fun x => by unfold Addr.add; simp
  rw [run_sliceAt_slice w 24 _ _ _ _ (by kernel_rfl), run_slice_h w 24 a m cap (by kernel_rfl) .i64 (hi : Int) (by omega) (by omega), hsz]
  simp [Result.andThen_ok, sliced, h0]
theorem run_min2 {P : Program} (ts : Array TypeId) (t : TypeId) (k k1 : IntKind) (x y : Int) (w : World) : (Builtin.min_ ts t #[.int k x, .int k1 y]).run P w = .ok (.int k (min x y)) w := by
  have e : ∀ p q : Int, (if q < p then q else p) = min p q := fun p q => by split <;> omega
  simp [Builtin.min_, Builtin.min2, e]
end Go.Proofs.Ythadgepihjigeaa
