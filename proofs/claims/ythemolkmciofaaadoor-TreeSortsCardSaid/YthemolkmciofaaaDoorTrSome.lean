/- Some of a right list's entries; bools that came in; entries appended, many at once. -/
import Derived.Test.YthemolkmciofaaaDoorTrLawBack
import Derived.Deep.Grids
namespace Go.Proofs.YthemolkmciofaaaDoor
open Go.RowKit Plain Go.ChangeShapes Go.WideShapes Go.ChangeAt Go.Great
set_option linter.unusedVariables false
/-! ### Some of a right list -/
theorem rightT_pairs (xs : List TE) : rightT xs = true ↔ (∀ x ∈ xs, modeOk x.k = true ∧ nameOk x.p.data.toList = true) ∧ xs.Pairwise (fun y x => (y.p.data.toList == x.p.data.toList) = false ∧ ltB (keyT y) (keyT x) = true) := by
  constructor
  · intro h
    have he := (rightT_iff xs).1 h
    refine ⟨right_each h, List.pairwise_iff_getElem.2 fun i j hi hj hij => ?_⟩
    have step : ∀ k (hk : k + 1 < xs.length), ltB (keyT (xs[k]'(by omega))) (keyT (xs[k + 1]'hk)) = true := fun k hk => by
      have h1 := he (k + 1) _ (List.getElem?_eq_getElem hk)
      unfold entOk at h1
      rw [Bool.and_eq_true] at h1
      have h2 := h1.2
      change (match xs[k]? with | some y => ltB (keyT y) (keyT xs[k + 1]) | none => true) = true at h2
      rw [show xs[k]? = some (xs[k]'(by omega)) from List.getElem?_eq_getElem (by omega)] at h2
      exact h2
    have far : ∀ d (hd : i + d + 1 < xs.length), ltB (keyT (xs[i]'hi)) (keyT (xs[i + d + 1]'hd)) = true := by
      intro d
      induction d with
      | zero => intro hd; exact step i hd
      | succ d ih => intro hd; exact ltB_trans (ih (by omega)) (step (i + d + 1) hd)
    refine ⟨?_, ?_⟩
    · have h1 := he j _ (List.getElem?_eq_getElem hj)
      unfold entOk at h1
      rw [Bool.and_eq_true, Bool.and_eq_true] at h1
      have h2 := List.all_eq_true.1 h1.1.2 (xs[i]'hi) (List.mem_iff_getElem.2 ⟨i, by rw [List.length_take]; omega, by rw [List.getElem_take]⟩)
      simpa using h2
    · have := far (j - i - 1) (by omega)
      have e : i + (j - i - 1) + 1 = j := by omega
      simpa only [e] using this
  · rintro ⟨h1, h2⟩
    rw [List.pairwise_iff_getElem] at h2
    refine rightT_all fun i x hi hx => ?_
    obtain ⟨_, rfl⟩ := List.getElem?_eq_some_iff.1 hx
    have hm := h1 _ (List.getElem_mem hi)
    unfold entOk
    rw [hm.1, hm.2, Bool.and_eq_true, Bool.true_and, Bool.true_and]
    refine ⟨List.all_eq_true.2 fun y hy => ?_, ?_⟩
    · obtain ⟨j, hj, rfl⟩ := List.mem_iff_getElem.1 hy
      rw [List.length_take] at hj
      rw [List.getElem_take, (h2 j i (by omega) hi (by omega)).1]
      rfl
    · cases i with
      | zero => rfl
      | succ j =>
        show (match xs[j]? with | some y => ltB (keyT y) (keyT xs[j + 1]) | none => true) = true
        rw [List.getElem?_eq_getElem (show j < xs.length by omega)]
        exact (h2 j (j + 1) (by omega) hi (by omega)).2
theorem rightT_sub {zs xs : List TE} (h : zs.Sublist xs) (hr : rightT xs = true) : rightT zs = true := by
  rw [rightT_pairs] at hr ⊢
  exact ⟨fun x hx => hr.1 x (h.subset hx), hr.2.sublist h⟩
theorem rightT_dup {xs : List TE} {x : TE} (h : x ∈ xs) : rightT (xs ++ [x]) = false := by
  refine rightT_bad (i := xs.length) (x := x) (by simp) ?_
  unfold entOk
  have e : (((xs ++ [x]).take xs.length).all fun y => !(y.p.data.toList == x.p.data.toList)) = false := by
    rw [List.take_left', List.all_eq_false]
    · exact ⟨x, h, by simp⟩
    · rfl
  rw [e]
  simp
theorem text_halves (xs : List TE) (k : Nat) : numsOf (txt (textT (xs.take k))) ++ numsOf (txt (textT (xs.drop k))) = numsOf (txt (textT xs)) := by
  rw [← numsOf_app, ← textT_app, List.take_append_drop]
/-! ### Bools that came in -/
/-! ### From a place on -/
def subE (a : Option Addr) (cap l : Nat) : Option Addr := if cap = l then a else a.map (·.add (l * 22))
theorem EsAt.drop {w : World} {a : Option Addr} {xs : List TE} (h : EsAt w a xs) (cap q : Nat) (hc : xs.length ≤ cap) (hq : q ≤ xs.length) : EsAt w (subE a cap q) (xs.drop q) := by
  refine ⟨fun p hp => h.each p (List.mem_of_mem_drop hp), ?_⟩
  by_cases he : q = xs.length
  · exact .inl (by rw [List.length_drop]; omega)
  · rcases h.rows with h0 | ⟨b, off, rfl, hb, hr⟩
    · omega
    · refine .inr ⟨b, off + q * 22, ?_, hb, fun j p hj => ?_⟩
      · unfold subE
        rw [if_neg (by omega)]
        simp [Addr.add_mid]
      · rw [List.getElem?_drop] at hj
        have := hr (q + j) p hj
        rw [show off + q * 22 + j * 22 = off + (q + j) * 22 by omega]
        exact this
theorem slice_fromE (a : Option Addr) (m cap lo : Nat) (h1 : lo ≤ m) (h2 : m ≤ cap) (w : World) :
    (Instr.sliceAt 23 (.slice a m cap) (some (.int .i64 (lo : Int))) none none).run Tryd.prog w = .ok (.slice (subE a cap lo) (m - lo) (cap - lo)) w := by
  have hsz : ∀ W : World, (sizeOf (Tryd.prog.elem 23)).run Tryd.prog W = .ok 22 W := fun W => by kernel_rfl
  rw [run_sliceAt_slice w 23 _ _ _ _ (by kernel_rfl), run_slice_l w 23 a m cap (by kernel_rfl) .i64 (lo : Int) (by omega) (by omega), hsz]
  simp [Result.andThen_ok, sliced, subE]
/-! ### Many at once -/
theorem flat_cells {w : World} {b off : Nat} {ys : List TE} (h20 : ∀ x ∈ ys, x.n.length = 20) (h : ∀ j x, ys[j]? = some x → w.rangeAt b (off + j * 22) (entL x)) :
    ∀ (j : Nat) u, (flatE ys)[j]? = some u → w.cell? ((⟨b, off, none⟩ : Addr).add j) = some u := fun j u hu => by
  have hj := (List.getElem?_eq_some_iff.1 hu).1
  rw [flatE_len ys h20] at hj
  have hq : j / 22 < ys.length := by omega
  have hy := List.getElem?_eq_getElem hq
  have hg := flatE_get ys (j / 22) (j % 22) _ h20 hy (by omega)
  rw [show j / 22 * 22 + j % 22 = j by omega, hu] at hg
  have := h (j / 22) _ hy (j % 22) u hg.symm
  rw [Addr.add_mid, show off + j = off + j / 22 * 22 + j % 22 by omega]
  exact this
theorem flatE_ones : ∀ (ys : List TE), ∀ u ∈ flatE ys, u.oneCell' = true
  | [], u, hu => by simp [flatE] at hu
  | y :: ys, u, hu => by
    rw [flatE_cons] at hu
    rcases List.mem_append.1 hu with hu | hu
    · exact entL_one y u hu
    · exact flatE_ones ys u hu
theorem OwnE.empty (w : World) : OwnE 30 (w.alloc (.cells #[] 30)) w.heap.size (.slice (some ⟨w.heap.size, 0, none⟩) 0 0) [] :=
  ⟨⟨rfl, .inr ⟨w.heap.size, 0, #[], rfl, Nat.le_refl _, heap_alloc_new w _, Nat.le_refl _, by unfold maxLen; omega, rfl, rfl⟩⟩, by simp⟩
theorem slice_noE (W : World) : (Instr.buildSlice 23 0 #[]).run Tryd.prog W = .ok (.slice (some ⟨W.heap.size, 0, none⟩) 0 0) (W.alloc (.cells #[] 30)) := by
  obtain ⟨i, hi, hz, h1, -⟩ := parts_ent
  simp [Instr.buildSlice, Instr.fill, run_underlying Tryd.underlying23, sizeOf, typeInfo, hi, newRow]
  have e : ∀ f : Nat → Value, Array.map f (Array.range 0) = #[] := fun f => Array.eq_empty_of_size_eq_zero (by simp)
  rw [e]
theorem wp_append_ents {w : World} {o : Oper} {ac : Act} {K : Act → World → Prop} {Q : Exit → Act → World → Prop} (s x : Operand)
    (ho : o.op = .call { callee := .builtin .append, args := #[s, x], argTypes := #[23, 23] })
    (base : Nat) (v : Value) (xs : List TE) (n : Nat) (hn : xs.length = n) (hs : ac.eval s = v) (hown : OwnE 30 w base v xs) (g0 off m c : Nat) (ys : List TE) (hm : ys.length = m) (hm0 : 0 < m) (hy20 : ∀ y ∈ ys, y.n.length = 20)
    (hx : ac.eval x = .slice (some ⟨g0, off, none⟩) m c) (hy : ∀ (j : Nat) y, ys[j]? = some y → w.rangeAt g0 (off + j * 22) (entL y)) (n2 : Nat) (zs : List TE) (hn2 : n + m = n2) (hzs : xs ++ ys = zs)
    (hsum : n2 ≤ 1000001) (hbase : base ≤ w.heap.size)
    (h : ∀ g c w', OwnE 30 w' base (.slice (some ⟨g, 0, none⟩) n2 c) zs → w.grownBy w' v.ownBlock → (v.ownBlock = some g ∨ g = w.heap.size) → g < w'.heap.size → K (ac.put o.dst (.slice (some ⟨g, 0, none⟩) n2 c)) w') :
    Oper.wp Tryd.prog o ac w K Q := by
  obtain ⟨i, hi, hz, h1, h8⟩ := parts_ent
  subst hn hn2 hzs
  refine wp_append_lies w s x 23 ho base 30 i (.agg (entA noEnt)) 22 48 Tryd.underlying23 hi hz h1 h8 (by show (entA noEnt).size = 22; rw [entA_size _ zeros20_len]) (by omega) v xs.length _ hs hown.1 ⟨g0, off, none⟩ m c (flatE ys) hx (by rw [flatE_len ys hy20, hm]) (flat_cells hy20 hy) (flatE_ones ys) hm0 (by unfold maxLen; omega) (by omega) hbase _ rfl fun g c w' a1 a2 a3 a4 => ?_
  refine h g c w' ⟨?_, fun q hq => ?_⟩ a2 a3 a4
  · rw [flatE_append, List.length_append, hm]; exact a1
  · rcases List.mem_append.1 hq with hq | hq
    · exact hown.2 q hq
    · exact hy20 q hq
theorem step_append_ents {w : World} {ops : Array Oper} {o : Oper} {ac : Act} {K : Act → World → Prop} {Q : Exit → Act → World → Prop} {E : Prop} (hw : Region.wanted o (yielded ops ac.tmps) = true) (s x : Operand)
    (ho : o.op = .call { callee := .builtin .append, args := #[s, x], argTypes := #[23, 23] })
    (base : Nat) (v : Value) (xs : List TE) (n : Nat) (hn : xs.length = n) (hs : ac.eval s = v) (hown : OwnE 30 w base v xs) (g0 off m c : Nat) (ys : List TE) (hm : ys.length = m) (hm0 : 0 < m) (hy20 : ∀ y ∈ ys, y.n.length = 20)
    (hx : ac.eval x = .slice (some ⟨g0, off, none⟩) m c) (hy : ∀ (j : Nat) y, ys[j]? = some y → w.rangeAt g0 (off + j * 22) (entL y)) (n2 : Nat) (zs : List TE) (hn2 : n + m = n2) (hzs : xs ++ ys = zs)
    (hsum : n2 ≤ 1000001) (hbase : base ≤ w.heap.size)
    (h : ∀ g c w', OwnE 30 w' base (.slice (some ⟨g, 0, none⟩) n2 c) zs → w.grownBy w' v.ownBlock → (v.ownBlock = some g ∨ g = w.heap.size) → g < w'.heap.size → K (ac.put o.dst (.slice (some ⟨g, 0, none⟩) n2 c)) w') :
    if Region.wanted o (yielded ops ac.tmps) = true then Oper.wp Tryd.prog o ac w K Q else E := by
  rw [if_pos hw]
  exact wp_append_ents s x ho base v xs n hn hs hown g0 off m c ys hm hm0 hy20 hx hy n2 zs hn2 hzs hsum hbase h
theorem wpList_append_ents {w : World} {ops : Array Oper} {rest : List Oper} {o : Oper} {ac : Act} {Q : Exit → Act → World → Prop} (hgd : o.guard = none) (s x : Operand)
    (ho : o.op = .call { callee := .builtin .append, args := #[s, x], argTypes := #[23, 23] })
    (base : Nat) (v : Value) (xs : List TE) (n : Nat) (hn : xs.length = n) (hs : ac.eval s = v) (hown : OwnE 30 w base v xs) (g0 off m c : Nat) (ys : List TE) (hm : ys.length = m) (hm0 : 0 < m) (hy20 : ∀ y ∈ ys, y.n.length = 20)
    (hx : ac.eval x = .slice (some ⟨g0, off, none⟩) m c) (hy : ∀ (j : Nat) y, ys[j]? = some y → w.rangeAt g0 (off + j * 22) (entL y)) (n2 : Nat) (zs : List TE) (hn2 : n + m = n2) (hzs : xs ++ ys = zs)
    (hsum : n2 ≤ 1000001) (hbase : base ≤ w.heap.size)
    (h : ∀ g c w', OwnE 30 w' base (.slice (some ⟨g, 0, none⟩) n2 c) zs → w.grownBy w' v.ownBlock → (v.ownBlock = some g ∨ g = w.heap.size) → g < w'.heap.size → wpList Tryd.prog ops Q rest (ac.put o.dst (.slice (some ⟨g, 0, none⟩) n2 c)) w') :
    wpList Tryd.prog ops Q (o :: rest) ac w :=
  wpList_plain hgd fun _ hK => wp_append_ents s x ho base v xs n hn hs hown g0 off m c ys hm hm0 hy20 hx hy n2 zs hn2 hzs hsum hbase fun g c w' h2 h3 h4 h5 => hK _ _ (h g c w' h2 h3 h4 h5)
theorem one_range {w : World} {g : Nat} {x : TE} (h : w.rangeAt g 0 (entL x)) : ∀ (j : Nat) y, [x][j]? = some y → w.rangeAt g (0 + j * 22) (entL y) := fun j y hj => by
  cases j with
  | zero =>
    simp at hj
    subst hj
    simpa using h
  | succ j => simp at hj
theorem one_20 {x : TE} (h : x.n.length = 20) : ∀ y ∈ [x], y.n.length = 20 := fun y hy => by rw [List.mem_singleton.1 hy]; exact h
theorem Own.mid {w : World} {base : Nat} {v : Value} {n : Nat} {xs : List Int} (h : Own w base v n xs) : Mid w base v n xs := by
  have hl : xs.length = n := by have := h.1; simpa using this
  rcases Nat.eq_zero_or_pos n with h0 | h0
  · subst h0
    obtain rfl : xs = [] := List.eq_nil_of_length_eq_zero hl
    obtain ⟨h1, ⟨rfl, -⟩ | ⟨g, cap, cur, rfl, h3, h4, h5, h6, h7, h8⟩⟩ := h
    · exact Mid.nil w base
    · refine ⟨rfl, .inr ⟨g, 0, cap, rfl, h3, ?_, h5, by unfold maxLen at h6; omega, fun j v hv => (by cases hv), fun j hj => ?_⟩⟩
      · rcases Nat.lt_or_ge g w.heap.size with h | h
        · exact h
        · simp [Array.getElem?_eq_none h] at h4
      · simp [World.cell?, World.frozen?, h4, show j < cur.size by omega]
  · obtain ⟨h1, ⟨rfl, rfl⟩ | ⟨g, cap, cur, rfl, h3, h4, h5, h6, h7, h8⟩⟩ := h
    · omega
    · have hh : Own w base (.slice (some ⟨g, 0, none⟩) n cap) n xs := ⟨h1, .inr ⟨g, cap, cur, rfl, h3, h4, h5, h6, h7, h8⟩⟩
      refine ⟨hl, .inr ⟨g, 0, cap, rfl, h3, ?_, h5, by unfold maxLen at h6; omega, fun j v hv => ?_, fun j hj => ?_⟩⟩
      · rcases Nat.lt_or_ge g w.heap.size with h | h
        · exact h
        · simp [Array.getElem?_eq_none h] at h4
      · have hj : j < xs.length := by
          rcases Nat.lt_or_ge j xs.length with h | h
          · exact h
          · unfold U8 at hv; rw [List.getElem?_map, List.getElem?_eq_none h] at hv; cases hv
        rw [Nat.zero_add, hh.cell j (by omega)]
        unfold U8 at hv
        rw [List.getElem?_map, List.getElem?_eq_getElem hj] at hv
        rw [List.getElem?_eq_getElem hj]
        exact hv
      · simp [World.cell?, World.frozen?, h4, show j < cur.size by omega]
end Go.Proofs.YthemolkmciofaaaDoor
