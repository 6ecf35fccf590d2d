/- Rows of the document's entries: a part of one, many put behind one. -/
import Derived.Test.YthemolkmciofaaaDoorTzSort
namespace Go.Proofs.YthemolkmciofaaaDoor
open Go.RowKit Plain Go.ChangeShapes Go.WideShapes Go.ChangeAt Go.Great
set_option linter.unusedVariables false
set_option linter.unusedSimpArgs false
theorem slice_toER (a : Option Addr) (m cap hi : Nat) (h2 : hi ≤ cap) (w : World) :
    (Instr.sliceAt 22 (.slice a m cap) none (some (.int .i64 (hi : Int))) none).run Tryd.prog w = .ok (.slice a hi cap) w := by
  have hsz : ∀ W : World, (sizeOf (Tryd.prog.elem 22)).run Tryd.prog W = .ok 22 W := fun W => by kernel_rfl
  have h0 : ∀ x : Addr, x.add 0 = x := fun x => by unfold Addr.add; simp
  rw [run_sliceAt_slice w 22 _ _ _ _ (by kernel_rfl), run_slice_h w 22 a m cap (by kernel_rfl) .i64 (hi : Int) (by omega) (by omega), hsz]
  simp [Result.andThen_ok, sliced, h0]
theorem slice_fromER (a : Option Addr) (m cap lo : Nat) (h1 : lo ≤ m) (h2 : m ≤ cap) (w : World) :
    (Instr.sliceAt 22 (.slice a m cap) (some (.int .i64 (lo : Int))) none none).run Tryd.prog w = .ok (.slice (subE a cap lo) (m - lo) (cap - lo)) w := by
  have hsz : ∀ W : World, (sizeOf (Tryd.prog.elem 22)).run Tryd.prog W = .ok 22 W := fun W => by kernel_rfl
  rw [run_sliceAt_slice w 22 _ _ _ _ (by kernel_rfl), run_slice_l w 22 a m cap (by kernel_rfl) .i64 (lo : Int) (by omega) (by omega), hsz]
  simp [Result.andThen_ok, sliced, subE]
theorem OwnE.emptyR (w : World) : OwnE 33 (w.alloc (.cells #[] 33)) w.heap.size (.slice (some ⟨w.heap.size, 0, none⟩) 0 0) [] :=
  ⟨⟨rfl, .inr ⟨w.heap.size, 0, #[], rfl, Nat.le_refl _, heap_alloc_new w _, Nat.le_refl _, by unfold maxLen; omega, rfl, rfl⟩⟩, by simp⟩
theorem slice_noER (W : World) : (Instr.buildSlice 22 0 #[]).run Tryd.prog W = .ok (.slice (some ⟨W.heap.size, 0, none⟩) 0 0) (W.alloc (.cells #[] 33)) := by
  obtain ⟨i, hi, hz, h1, -⟩ := parts_rent
  simp [Instr.buildSlice, Instr.fill, run_underlying Tryd.underlying22, sizeOf, typeInfo, hi, newRow]
  have e : ∀ f : Nat → Value, Array.map f (Array.range 0) = #[] := fun f => Array.eq_empty_of_size_eq_zero (by simp)
  rw [e]
theorem wp_append_entsR {w : World} {o : Oper} {ac : Act} {K : Act → World → Prop} {Q : Exit → Act → World → Prop} (s x : Operand)
    (ho : o.op = .call { callee := .builtin .append, args := #[s, x], argTypes := #[22, 22] })
    (base : Nat) (v : Value) (xs : List TE) (n : Nat) (hn : xs.length = n) (hs : ac.eval s = v) (hown : OwnE 33 w base v xs) (g0 off m c : Nat) (ys : List TE) (hm : ys.length = m) (hm0 : 0 < m) (hy20 : ∀ y ∈ ys, y.n.length = 20)
    (hx : ac.eval x = .slice (some ⟨g0, off, none⟩) m c) (hy : ∀ (j : Nat) y, ys[j]? = some y → w.rangeAt g0 (off + j * 22) (entL y)) (n2 : Nat) (zs : List TE) (hn2 : n + m = n2) (hzs : xs ++ ys = zs)
    (hsum : n2 ≤ 1000001) (hbase : base ≤ w.heap.size)
    (h : ∀ g c w', OwnE 33 w' base (.slice (some ⟨g, 0, none⟩) n2 c) zs → w.grownBy w' v.ownBlock → (v.ownBlock = some g ∨ g = w.heap.size) → g < w'.heap.size → K (ac.put o.dst (.slice (some ⟨g, 0, none⟩) n2 c)) w') :
    Oper.wp Tryd.prog o ac w K Q := by
  obtain ⟨i, hi, hz, h1, h8⟩ := parts_rent
  subst hn hn2 hzs
  refine wp_append_lies w s x 22 ho base 33 i (.agg (entA noEnt)) 22 48 Tryd.underlying22 hi hz h1 h8 (by show (entA noEnt).size = 22; rw [entA_size _ zeros20_len]) (by omega) v xs.length _ hs hown.1 ⟨g0, off, none⟩ m c (flatE ys) hx (by rw [flatE_len ys hy20, hm]) (flat_cells hy20 hy) (flatE_ones ys) hm0 (by unfold maxLen; omega) (by omega) hbase _ rfl fun g c w' a1 a2 a3 a4 => ?_
  refine h g c w' ⟨?_, fun q hq => ?_⟩ a2 a3 a4
  · rw [flatE_append, List.length_append, hm]; exact a1
  · rcases List.mem_append.1 hq with hq | hq
    · exact hown.2 q hq
    · exact hy20 q hq
theorem step_append_entsR {w : World} {ops : Array Oper} {o : Oper} {ac : Act} {K : Act → World → Prop} {Q : Exit → Act → World → Prop} {E : Prop} (hw : Region.wanted o (yielded ops ac.tmps) = true) (s x : Operand)
    (ho : o.op = .call { callee := .builtin .append, args := #[s, x], argTypes := #[22, 22] })
    (base : Nat) (v : Value) (xs : List TE) (n : Nat) (hn : xs.length = n) (hs : ac.eval s = v) (hown : OwnE 33 w base v xs) (g0 off m c : Nat) (ys : List TE) (hm : ys.length = m) (hm0 : 0 < m) (hy20 : ∀ y ∈ ys, y.n.length = 20)
    (hx : ac.eval x = .slice (some ⟨g0, off, none⟩) m c) (hy : ∀ (j : Nat) y, ys[j]? = some y → w.rangeAt g0 (off + j * 22) (entL y)) (n2 : Nat) (zs : List TE) (hn2 : n + m = n2) (hzs : xs ++ ys = zs)
    (hsum : n2 ≤ 1000001) (hbase : base ≤ w.heap.size)
    (h : ∀ g c w', OwnE 33 w' base (.slice (some ⟨g, 0, none⟩) n2 c) zs → w.grownBy w' v.ownBlock → (v.ownBlock = some g ∨ g = w.heap.size) → g < w'.heap.size → K (ac.put o.dst (.slice (some ⟨g, 0, none⟩) n2 c)) w') :
    if Region.wanted o (yielded ops ac.tmps) = true then Oper.wp Tryd.prog o ac w K Q else E := by
  rw [if_pos hw]
  exact wp_append_entsR s x ho base v xs n hn hs hown g0 off m c ys hm hm0 hy20 hx hy n2 zs hn2 hzs hsum hbase h
theorem wpList_append_entsR {w : World} {ops : Array Oper} {rest : List Oper} {o : Oper} {ac : Act} {Q : Exit → Act → World → Prop} (hgd : o.guard = none) (s x : Operand)
    (ho : o.op = .call { callee := .builtin .append, args := #[s, x], argTypes := #[22, 22] })
    (base : Nat) (v : Value) (xs : List TE) (n : Nat) (hn : xs.length = n) (hs : ac.eval s = v) (hown : OwnE 33 w base v xs) (g0 off m c : Nat) (ys : List TE) (hm : ys.length = m) (hm0 : 0 < m) (hy20 : ∀ y ∈ ys, y.n.length = 20)
    (hx : ac.eval x = .slice (some ⟨g0, off, none⟩) m c) (hy : ∀ (j : Nat) y, ys[j]? = some y → w.rangeAt g0 (off + j * 22) (entL y)) (n2 : Nat) (zs : List TE) (hn2 : n + m = n2) (hzs : xs ++ ys = zs)
    (hsum : n2 ≤ 1000001) (hbase : base ≤ w.heap.size)
    (h : ∀ g c w', OwnE 33 w' base (.slice (some ⟨g, 0, none⟩) n2 c) zs → w.grownBy w' v.ownBlock → (v.ownBlock = some g ∨ g = w.heap.size) → g < w'.heap.size → wpList Tryd.prog ops Q rest (ac.put o.dst (.slice (some ⟨g, 0, none⟩) n2 c)) w') :
    wpList Tryd.prog ops Q (o :: rest) ac w :=
  wpList_plain hgd fun _ hK => wp_append_entsR s x ho base v xs n hn hs hown g0 off m c ys hm hm0 hy20 hx hy n2 zs hn2 hzs hsum hbase fun g c w' h2 h3 h4 h5 => hK _ _ (h g c w' h2 h3 h4 h5)
end Go.Proofs.YthemolkmciofaaaDoor
