/- Rows of the document's files put behind one another. -/
import Derived.Test.YtcbjadecocggjaaDoorMgStr
namespace Go.Proofs.YtcbjadecocggjaaDoor
open Go.RowKit Go.WideMaps Go.Maps Plain Go.ChangeShapes Go.WideShapes Go.ChangeAt Go.Great
set_option linter.unusedVariables false
set_option linter.unusedSimpArgs false
theorem flat_cells {w : World} {b off : Nat} {ys : List MF} (h20 : ∀ x ∈ ys, x.n.length = 20) (h : ∀ j x, ys[j]? = some x → w.rangeAt b (off + j * 22) (fileL x)) :
    ∀ (j : Nat) u, (flatF ys)[j]? = some u → w.cell? ((⟨b, off, none⟩ : Addr).add j) = some u := fun j u hu => by
  have hj := (List.getElem?_eq_some_iff.1 hu).1
  rw [flatF_len ys h20] at hj
  have hq : j / 22 < ys.length := by omega
  have hy := List.getElem?_eq_getElem hq
  have hg := flatF_get ys (j / 22) (j % 22) _ h20 hy (by omega)
  rw [show j / 22 * 22 + j % 22 = j by omega, hu] at hg
  have := h (j / 22) _ hy (j % 22) u hg.symm
  rw [Addr.add_mid, show off + j = off + j / 22 * 22 + j % 22 by omega]
  exact this
theorem flatF_ones : ∀ (ys : List MF), ∀ u ∈ flatF ys, u.oneCell' = true
  | [], u, hu => by simp [flatF] at hu
  | y :: ys, u, hu => by
    rw [flatF_cons] at hu
    rcases List.mem_append.1 hu with hu | hu
    · exact fileL_one y u hu
    · exact flatF_ones ys u hu
theorem OwnF.emptyR (w : World) : OwnF 45 (w.alloc (.cells #[] 45)) w.heap.size (.slice (some ⟨w.heap.size, 0, none⟩) 0 0) [] :=
  ⟨⟨rfl, .inr ⟨w.heap.size, 0, #[], rfl, Nat.le_refl _, heap_alloc_new w _, Nat.le_refl _, by unfold maxLen; omega, rfl, rfl⟩⟩, by simp⟩
theorem slice_noRF (W : World) : (Instr.buildSlice 22 0 #[]).run Tryd.prog W = .ok (.slice (some ⟨W.heap.size, 0, none⟩) 0 0) (W.alloc (.cells #[] 45)) := by
  obtain ⟨i, hi, hz, h1, -⟩ := parts_rfile
  simp [Instr.buildSlice, Instr.fill, run_underlying Tryd.underlying22, sizeOf, typeInfo, hi, newRow]
  have e : ∀ f : Nat → Value, Array.map f (Array.range 0) = #[] := fun f => Array.eq_empty_of_size_eq_zero (by simp)
  rw [e]
theorem wp_append_filesR {w : World} {o : Oper} {ac : Act} {K : Act → World → Prop} {Q : Exit → Act → World → Prop} (s x : Operand)
    (ho : o.op = .call { callee := .builtin .append, args := #[s, x], argTypes := #[22, 22] })
    (base : Nat) (v : Value) (xs : List MF) (n : Nat) (hn : xs.length = n) (hs : ac.eval s = v) (hown : OwnF 45 w base v xs) (g0 off m c : Nat) (ys : List MF) (hm : ys.length = m) (hm0 : 0 < m) (hy20 : ∀ y ∈ ys, y.n.length = 20)
    (hx : ac.eval x = .slice (some ⟨g0, off, none⟩) m c) (hy : ∀ (j : Nat) y, ys[j]? = some y → w.rangeAt g0 (off + j * 22) (fileL y)) (n2 : Nat) (zs : List MF) (hn2 : n + m = n2) (hzs : xs ++ ys = zs)
    (hsum : n2 ≤ 1000001) (hbase : base ≤ w.heap.size)
    (h : ∀ g c w', OwnF 45 w' base (.slice (some ⟨g, 0, none⟩) n2 c) zs → w.grownBy w' v.ownBlock → (v.ownBlock = some g ∨ g = w.heap.size) → g < w'.heap.size → K (ac.put o.dst (.slice (some ⟨g, 0, none⟩) n2 c)) w') :
    Oper.wp Tryd.prog o ac w K Q := by
  obtain ⟨i, hi, hz, h1, h8⟩ := parts_rfile
  subst hn hn2 hzs
  refine wp_append_lies w s x 22 ho base 45 i (.agg (fileA noFile)) 22 56 Tryd.underlying22 hi hz h1 h8 (by show (fileA noFile).size = 22; rw [fileA_size _ zeros20_len]) (by omega) v xs.length _ hs hown.1 ⟨g0, off, none⟩ m c (flatF ys) hx (by rw [flatF_len ys hy20, hm]) (flat_cells hy20 hy) (flatF_ones ys) hm0 (by unfold maxLen; omega) (by omega) hbase _ rfl fun g c w' a1 a2 a3 a4 => ?_
  refine h g c w' ⟨?_, fun q hq => ?_⟩ a2 a3 a4
  · rw [flatF_append, List.length_append, hm]; exact a1
  · rcases List.mem_append.1 hq with hq | hq
    · exact hown.2 q hq
    · exact hy20 q hq
theorem wp_append_filesM {w : World} {o : Oper} {ac : Act} {K : Act → World → Prop} {Q : Exit → Act → World → Prop} (s x : Operand)
    (ho : o.op = .call { callee := .builtin .append, args := #[s, x], argTypes := #[22, 22] })
    (base : Nat) (v : Value) (xs : List MF) (n : Nat) (hn : xs.length = n) (hs : ac.eval s = v) (hown : OwnF 45 w base v xs) (ax : Option Addr) (m c : Nat) (ys : List MF) (hm : ys.length = m)
    (hx : ac.eval x = .slice ax m c) (hy : FsAt w ax ys) (n2 : Nat) (zs : List MF) (hn2 : n + m = n2) (hzs : xs ++ ys = zs) (hsum : n2 ≤ 1000001) (hbase : base ≤ w.heap.size)
    (h : ∀ v' w', OwnF 45 w' base v' zs → w.grownBy w' v.ownBlock → K (ac.put o.dst v') w') :
    Oper.wp Tryd.prog o ac w K Q := by
  by_cases h0 : m = 0
  · subst h0
    have e : ys = [] := List.length_eq_zero_iff.1 hm
    subst e hzs
    rw [List.append_nil] at h
    obtain ⟨i, hi, -⟩ := parts_rfile
    have hrun := run_append_zero (P := Tryd.prog) w base 22 o.type 45 i 22 (Tryd.underlying22) hi v _ _ hown.1 ax c
    unfold Oper.wp
    simp [execOp, ho, resolve, invoke, builtin, hs, hx, hrun, Result.andThen]
    exact h v w hown (⟨rfl, rfl, rfl, Nat.le_refl _, fun _ _ _ => rfl⟩)
  · obtain ⟨b, off, rfl, hb, hc⟩ := hy.rows.resolve_left (by omega)
    exact wp_append_filesR s x ho base v xs n hn hs hown b off m c ys hm (by omega) (fun y hy' => hy.each y hy') hx hc n2 zs hn2 hzs hsum hbase fun g c w' h1 h2 _ _ => h _ w' h1 h2
theorem wpList_append_filesM {w : World} {ops : Array Oper} {rest : List Oper} {o : Oper} {ac : Act} {Q : Exit → Act → World → Prop} (hgd : o.guard = none) (s x : Operand)
    (ho : o.op = .call { callee := .builtin .append, args := #[s, x], argTypes := #[22, 22] })
    (base : Nat) (v : Value) (xs : List MF) (n : Nat) (hn : xs.length = n) (hs : ac.eval s = v) (hown : OwnF 45 w base v xs) (ax : Option Addr) (m c : Nat) (ys : List MF) (hm : ys.length = m)
    (hx : ac.eval x = .slice ax m c) (hy : FsAt w ax ys) (n2 : Nat) (zs : List MF) (hn2 : n + m = n2) (hzs : xs ++ ys = zs) (hsum : n2 ≤ 1000001) (hbase : base ≤ w.heap.size)
    (h : ∀ v' w', OwnF 45 w' base v' zs → w.grownBy w' v.ownBlock → wpList Tryd.prog ops Q rest (ac.put o.dst v') w') :
    wpList Tryd.prog ops Q (o :: rest) ac w :=
  wpList_plain hgd fun _ hK => wp_append_filesM s x ho base v xs n hn hs hown ax m c ys hm hx hy n2 zs hn2 hzs hsum hbase fun v' w' h1 h2 => hK _ _ (h v' w' h1 h2)
end Go.Proofs.YtcbjadecocggjaaDoor
