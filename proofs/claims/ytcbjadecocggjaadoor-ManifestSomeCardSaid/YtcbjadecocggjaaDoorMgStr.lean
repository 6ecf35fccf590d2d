/- Rows of strings: cut, put behind one another; a text put in order. -/
import Derived.Test.YtcbjadecocggjaaDoorMgOf
namespace Go.Proofs.YtcbjadecocggjaaDoor
open Go.Sort Go.RowKit Go.WideMaps Go.Maps Plain Go.ChangeShapes Go.WideShapes Go.ChangeAt Go.Great
set_option linter.unusedVariables false
set_option linter.unusedSimpArgs false
/-- Strings that lie in a row. -/
def StrsAtM (w : World) (a : Option Addr) (ys : List (List UInt8)) : Prop := ys.length = 0 ∨ ∃ b off, a = some ⟨b, off, none⟩ ∧ b < w.heap.size ∧ ∀ j s, ys[j]? = some s → w.cell? ⟨b, off + j, none⟩ = some (encStr s)
def OwnS (w : World) (base : Nat) (v : Value) (ss : List (List UInt8)) : Prop := w.ownsRow base 9 1 v ss.length (ss.map encStr)
theorem OwnS.nil (w : World) (base : Nat) : OwnS w base (.slice none 0 0) [] := World.ownsRow_nil _ _ _ _
theorem OwnS.at {w : World} {base : Nat} {v : Value} {ss : List (List UInt8)} (h : OwnS w base v ss) : ∃ a c, v = .slice a ss.length c ∧ StrsAtM w a ss ∧ ss.length ≤ c ∧ (a = none → c = 0) := by
  obtain ⟨h1, h2⟩ := id h
  rcases h2 with ⟨rfl, h0⟩ | ⟨g, cap, cur, rfl, h3, h4, h5, h6, h7, h8⟩
  · rw [h0]; exact ⟨none, 0, rfl, .inl h0, Nat.le_refl _, fun _ => rfl⟩
  · refine ⟨some ⟨g, 0, none⟩, cap, rfl, .inr ⟨g, 0, rfl, (Array.getElem?_eq_some_iff.1 h4).1, fun j s hj => ?_⟩, h5, fun e => by cases e⟩
    have hjl := (List.getElem?_eq_some_iff.1 hj).1
    rw [Nat.zero_add, World.ownsRow.cellAt (id h : w.ownsRow base 9 1 (.slice (some ⟨g, 0, none⟩) ss.length cap) ss.length (ss.map encStr)) j (by omega), List.getElem?_map, hj]
    rfl
theorem OwnS.below {w w' : World} {base : Nat} {v : Value} {ss : List (List UInt8)} (h : OwnS w base v ss) (hb : Below w.heap.size w w') : OwnS w' base v ss := ownsRow_belowM h hb
theorem OwnS.lower {w : World} {base base' : Nat} {v : Value} {ss : List (List UInt8)} (h : OwnS w base v ss) (hb : base' ≤ base) : OwnS w base' v ss :=
  ⟨h.1, h.2.imp id fun ⟨g, cap, cur, e1, h1, r⟩ => ⟨g, cap, cur, e1, Nat.le_trans hb h1, r⟩⟩
theorem OwnS.off {w w' : World} {base : Nat} {v : Value} {ss : List (List UInt8)} (h : OwnS w base v ss) (hb : base ≤ w.heap.size) (hg : w.grownBy w' v.ownBlock) : Below base w w' := (Below.refl _ _).grown hg hb fun k hk => (World.ownsRow.lt h k hk).1
theorem StrsAtM.below {w w' : World} {a : Option Addr} {ys : List (List UInt8)} (h : StrsAtM w a ys) (hb : Below w.heap.size w w') : StrsAtM w' a ys :=
  h.imp id fun ⟨b, off, e, hl, hc⟩ => ⟨b, off, e, Nat.lt_of_lt_of_le hl hb.size, fun j s hj => (hb.cell (p := ⟨b, off + j, none⟩) hl).trans (hc j s hj)⟩
theorem StrsAtM.take {w : World} {a : Option Addr} {ys : List (List UInt8)} (h : StrsAtM w a ys) (k : Nat) : StrsAtM w a (ys.take k) := by
  rcases h with h0 | ⟨b, off, e, hl, hc⟩
  · exact .inl (by rw [List.length_take, h0]; omega)
  · refine .inr ⟨b, off, e, hl, fun j s hj => hc j s ?_⟩
    rw [List.getElem?_take] at hj
    split at hj
    · exact hj
    · cases hj
def subS (a : Option Addr) (cap l : Nat) : Option Addr := if cap = l then a else a.map (·.add l)
theorem StrsAtM.drop {w : World} {a : Option Addr} {ys : List (List UInt8)} (h : StrsAtM w a ys) (cap q : Nat) (hc : ys.length ≤ cap) (hq : q ≤ ys.length) : StrsAtM w (subS a cap q) (ys.drop q) := by
  by_cases he : q = ys.length
  · exact .inl (by rw [List.length_drop]; omega)
  · rcases h with h0 | ⟨b, off, rfl, hb, hr⟩
    · omega
    · refine .inr ⟨b, off + q, ?_, hb, fun j s hj => ?_⟩
      · unfold subS
        rw [if_neg (by omega)]
        simp [Addr.add_mid]
      · rw [List.getElem?_drop] at hj
        have := hr (q + j) s hj
        rwa [← Nat.add_assoc] at this
theorem slice_toS (a : Option Addr) (m cap hi : Nat) (h2 : hi ≤ cap) (w : World) :
    (Instr.sliceAt 25 (.slice a m cap) none (some (.int .i64 (hi : Int))) none).run Tryd.prog w = .ok (.slice a hi cap) w := by
  have hsz : ∀ W : World, (sizeOf (Tryd.prog.elem 25)).run Tryd.prog W = .ok 1 W := fun W => by kernel_rfl
  have h0 : ∀ x : Addr, x.add 0 = x := fun x => by unfold Addr.add; simp
  rw [run_sliceAt_slice w 25 _ _ _ _ (by kernel_rfl), run_slice_h w 25 a m cap (by kernel_rfl) .i64 (hi : Int) (by omega) (by omega), hsz]
  simp [Result.andThen_ok, sliced, h0]
theorem slice_fromS (a : Option Addr) (m cap lo : Nat) (h1 : lo ≤ m) (h2 : m ≤ cap) (w : World) :
    (Instr.sliceAt 25 (.slice a m cap) (some (.int .i64 (lo : Int))) none none).run Tryd.prog w = .ok (.slice (subS a cap lo) (m - lo) (cap - lo)) w := by
  have hsz : ∀ W : World, (sizeOf (Tryd.prog.elem 25)).run Tryd.prog W = .ok 1 W := fun W => by kernel_rfl
  rw [run_sliceAt_slice w 25 _ _ _ _ (by kernel_rfl), run_slice_l w 25 a m cap (by kernel_rfl) .i64 (lo : Int) (by omega) (by omega), hsz]
  simp [Result.andThen_ok, sliced, subS]
theorem OwnS.empty (w : World) : OwnS (w.alloc (.cells #[] 9)) w.heap.size (.slice (some ⟨w.heap.size, 0, none⟩) 0 0) [] :=
  ⟨rfl, .inr ⟨w.heap.size, 0, #[], rfl, Nat.le_refl _, heap_alloc_new w _, Nat.le_refl _, by unfold maxLen; omega, rfl, rfl⟩⟩
theorem slice_noS (W : World) : (Instr.buildSlice 25 0 #[]).run Tryd.prog W = .ok (.slice (some ⟨W.heap.size, 0, none⟩) 0 0) (W.alloc (.cells #[] 9)) := by
  obtain ⟨i, hi, hz, h1, -⟩ := info_str
  simp [Instr.buildSlice, Instr.fill, run_underlying Tryd.underlying25, sizeOf, typeInfo, hi, newRow]
  have e : ∀ f : Nat → Value, Array.map f (Array.range 0) = #[] := fun f => Array.eq_empty_of_size_eq_zero (by simp)
  rw [e]
theorem run_append_zero {P : Program} (w : World) (base : Nat) (t ty e : TypeId) (i : TypeInfo) (size : Nat) (ht : P.underlying t = some (.slice e)) (hi : P.info? e = some i)
    (v : Value) (n : Nat) (xs : List Value) (hown : w.ownsRow base e size v n xs) (x : Option Addr) (cx : Nat) :
    (Builtin.append_ #[t, t] ty #[v, .slice x 0 cx]).run P w = .ok v w := by
  rcases hown.2 with ⟨rfl, rfl⟩ | ⟨g, cap, cur, rfl, _, _, hnc, _⟩ <;> cases x <;>
    simp [Builtin.append_, run_underlying ht, sizeOf, typeInfo, hi, Builtin.lenOf, Builtin.firstCells, storeCells, loadCells, loadCellsFrom, *]
theorem wp_append_strs {w : World} {o : Oper} {ac : Act} {K : Act → World → Prop} {Q : Exit → Act → World → Prop} (s x : Operand)
    (ho : o.op = .call { callee := .builtin .append, args := #[s, x], argTypes := #[25, 25] })
    (base : Nat) (v : Value) (xs : List (List UInt8)) (hs : ac.eval s = v) (hown : OwnS w base v xs) (ax : Option Addr) (m c : Nat) (ys : List (List UInt8)) (hm : ys.length = m)
    (hx : ac.eval x = .slice ax m c) (hy : StrsAtM w ax ys) (zs : List (List UInt8)) (hzs : xs ++ ys = zs) (hsum : xs.length + m ≤ 1000001) (hbase : base ≤ w.heap.size)
    (h : ∀ v' w', OwnS w' base v' zs → w.grownBy w' v.ownBlock → K (ac.put o.dst v') w') :
    Oper.wp Tryd.prog o ac w K Q := by
  by_cases h0 : m = 0
  · subst h0
    have e : ys = [] := List.length_eq_zero_iff.1 hm
    subst e hzs
    rw [List.append_nil] at h
    obtain ⟨i, hi, -⟩ := info_str
    have hrun := run_append_zero (P := Tryd.prog) w base 25 o.type 9 i 1 (Tryd.underlying25) hi v _ _ hown ax c
    unfold Oper.wp
    simp [execOp, ho, resolve, invoke, builtin, hs, hx, hrun, Result.andThen]
    exact h v w hown ⟨rfl, rfl, rfl, Nat.le_refl _, fun _ _ _ => rfl⟩
  · obtain ⟨b, off, rfl, hb, hc⟩ := hy.resolve_left (by omega)
    obtain ⟨i, hi, hz, h1, h2⟩ := info_str
    refine wp_append_own w s x 25 ho base 9 i (.string ⟨#[]⟩) 1 16 Tryd.underlying25 hi hz h1 h2 rfl (by decide) v xs.length (xs.map encStr) hs hown ⟨b, off, none⟩ m c (ys.map encStr) hx (by rw [List.length_map, hm, Nat.mul_one]) (fun j u hu => ?_) (fun u hu => ?_) (by unfold maxLen; omega) (by omega) hbase fun v' w' h3 h4 _ => ?_
    · rw [List.getElem?_map] at hu
      obtain ⟨s', hs', rfl⟩ := Option.map_eq_some_iff.1 hu
      rw [Addr.add_mid]
      exact hc j s' hs'
    · obtain ⟨s', -, rfl⟩ := List.mem_map.1 hu
      rfl
    · refine h v' w' ?_ h4
      subst hzs
      unfold OwnS
      rw [List.map_append, List.length_append, hm]
      exact h3
theorem wpList_append_strs {w : World} {ops : Array Oper} {rest : List Oper} {o : Oper} {ac : Act} {Q : Exit → Act → World → Prop} (hgd : o.guard = none) (s x : Operand)
    (ho : o.op = .call { callee := .builtin .append, args := #[s, x], argTypes := #[25, 25] })
    (base : Nat) (v : Value) (xs : List (List UInt8)) (hs : ac.eval s = v) (hown : OwnS w base v xs) (ax : Option Addr) (m c : Nat) (ys : List (List UInt8)) (hm : ys.length = m)
    (hx : ac.eval x = .slice ax m c) (hy : StrsAtM w ax ys) (zs : List (List UInt8)) (hzs : xs ++ ys = zs) (hsum : xs.length + m ≤ 1000001) (hbase : base ≤ w.heap.size)
    (h : ∀ v' w', OwnS w' base v' zs → w.grownBy w' v.ownBlock → wpList Tryd.prog ops Q rest (ac.put o.dst v') w') :
    wpList Tryd.prog ops Q (o :: rest) ac w :=
  wpList_plain hgd fun _ hK => wp_append_strs s x ho base v xs hs hown ax m c ys hm hx hy zs hzs hsum hbase fun v' w' h1 h2 => hK _ _ (h v' w' h1 h2)
/-! ### In order -/
def Ord (l : List (List UInt8)) : Prop := l.Pairwise fun a b => leB a b = true
theorem ord_self {l : List (List UInt8)} (h : Ord l) : l.mergeSort leB = l := by
  have tr : ∀ a b c : List UInt8, leB a b = true → leB b c = true → leB a c = true := fun a b c h1 h2 => by simp only [leB, decide_eq_true_eq] at *; exact List.le_trans h1 h2
  have tot : ∀ a b : List UInt8, (leB a b || leB b a) = true := fun a b => by simp only [leB, Bool.or_eq_true, decide_eq_true_eq]; exact List.le_total a b
  refine List.Perm.eq_of_pairwise (le := fun a b => leB a b = true) (fun a b _ _ h1 h2 => ?_) (List.pairwise_mergeSort tr tot l) h (List.mergeSort_perm l leB)
  simp only [leB, decide_eq_true_eq] at h1 h2
  exact List.le_antisymm h1 h2
theorem put_ord {l : List (List UInt8)} {p : List UInt8} {k : Nat} (h : Ord l) (hn : l.Nodup) (h1 : ∀ j y, j < k → l[j]? = some y → y < p) (h2 : ∀ y, l[k]? = some y → ¬ y < p ∧ y ≠ p) : Ord (l.take k ++ p :: l.drop k) ∧ (l.take k ++ p :: l.drop k).Nodup ∧ ∀ a, a ∈ l.take k ++ p :: l.drop k ↔ a = p ∨ a ∈ l := by
  have hle : ∀ d ∈ l.drop k, p ≤ d ∧ d ≠ p := fun d hd => by
    obtain ⟨j, hj⟩ := List.mem_iff_getElem?.1 hd
    rw [List.getElem?_drop] at hj
    have hk : k < l.length := by have := (List.getElem?_eq_some_iff.1 hj).1; omega
    obtain ⟨e1, e2⟩ := h2 _ (List.getElem?_eq_getElem hk)
    have e3 : p ≤ l[k] := e1
    rcases Nat.eq_zero_or_pos j with rfl | hj0
    · rw [Nat.add_zero, List.getElem?_eq_getElem hk] at hj
      cases hj
      exact ⟨e3, e2⟩
    · obtain ⟨hlt, rfl⟩ := List.getElem?_eq_some_iff.1 hj
      have e4 := List.pairwise_iff_getElem.1 h k (k + j) hk hlt (by omega)
      simp only [leB, decide_eq_true_eq] at e4
      refine ⟨List.le_trans e3 e4, fun e => e2 ?_⟩
      rw [e] at e4
      exact List.le_antisymm e4 e3
  have hlt : ∀ a ∈ l.take k, a < p := fun a ha => by
    obtain ⟨j, hj⟩ := List.mem_iff_getElem?.1 ha
    rw [List.getElem?_take] at hj
    split at hj
    · exact h1 j a ‹_› hj
    · cases hj
  have hapart := h
  rw [← List.take_append_drop k l] at hapart
  have hnd := hn
  rw [← List.take_append_drop k l] at hnd
  obtain ⟨a1, a2, a3⟩ := List.pairwise_append.1 hapart
  obtain ⟨n1, n2, n3⟩ := List.nodup_append.1 hnd
  refine ⟨List.pairwise_append.2 ⟨a1, List.pairwise_cons.2 ⟨fun d hd => decide_eq_true (hle d hd).1, a2⟩, fun a ha d hd => ?_⟩, List.nodup_append.2 ⟨n1, List.nodup_cons.2 ⟨fun h => (hle p h).2 rfl, n2⟩, fun a ha d hd e => ?_⟩, fun a => ?_⟩
  · rcases List.mem_cons.1 hd with rfl | hd
    · exact decide_eq_true (List.le_of_lt (hlt a ha))
    · exact a3 a ha d hd
  · subst e
    rcases List.mem_cons.1 hd with e | hd
    · rw [e] at ha
      exact List.lt_irrefl _ (hlt p ha)
    · exact n3 a ha a hd rfl
  · rw [List.mem_append, List.mem_cons]
    conv => rhs; rw [← List.take_append_drop k l, List.mem_append]
    constructor
    · rintro (h | h | h)
      · exact .inr (.inl h)
      · exact .inl h
      · exact .inr (.inr h)
    · rintro (h | h | h)
      · exact .inr (.inl h)
      · exact .inl h
      · exact .inr (.inr h)
end Go.Proofs.YtcbjadecocggjaaDoor
