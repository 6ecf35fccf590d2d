/- Rows of hunks that the call owns. -/
import Derived.Test.YtbkifjmfmiipnaaEndsMath
import Derived.Test.YtbkifjmfmiipnaaInput
import Derived.Maps.AppendAt
namespace Go.Proofs.Ytbkifjmfmiipnaa
open Go.RowKit Plain
set_option linter.unusedVariables false
def hkCells (h : HkM) : List Value := [.int .i64 h.fr, .int .i64 h.to, .slice h.a h.ys.length h.c]
def hksFlat (l : List HkM) : List Value := l.flatMap hkCells
def OwnH (w : World) (base : Nat) (v : Value) (n : Nat) (l : List HkM) : Prop := w.ownsRow base 26 3 v n (hksFlat l)
def Apart (u v : Value) : Prop := ∀ b, u.ownBlock = some b → v.ownBlock ≠ some b
theorem Apart.symm {u v : Value} (h : Apart u v) : Apart v u := fun b e e' => h b e' e
theorem hksFlat_length (l : List HkM) : (hksFlat l).length = l.length * 3 := by
  induction l with
  | nil => rfl
  | cons h t ih => simp [hksFlat, hkCells] at ih ⊢; omega
theorem hksFlat_get : ∀ (l : List HkM) (j i : Nat) (h : HkM), l[j]? = some h → i < 3 → (hksFlat l)[j * 3 + i]? = (hkCells h)[i]?
  | [], j, i, h, e, _ => by simp at e
  | x :: t, 0, i, h, e, hi => by
    simp at e
    subst e
    show (hkCells x ++ hksFlat t)[0 * 3 + i]? = _
    rw [Nat.zero_mul, Nat.zero_add, List.getElem?_append_left (by simpa [hkCells] using hi)]
  | x :: t, j + 1, i, h, e, hi => by
    have := hksFlat_get t j i h (by simpa using e) hi
    show (hkCells x ++ hksFlat t)[(j + 1) * 3 + i]? = _
    rw [List.getElem?_append_right (by simp [hkCells]; omega)]
    rw [show (j + 1) * 3 + i - (hkCells x).length = j * 3 + i by simp [hkCells]; omega]
    exact this
theorem OwnH.lt {w : World} {base : Nat} {v : Value} {n : Nat} {l : List HkM} (h : OwnH w base v n l) {g : Nat} (e : v.ownBlock = some g) : base ≤ g ∧ g < w.heap.size := by
  rcases h.2 with ⟨rfl, _⟩ | ⟨g', cap, cur, rfl, hb, hh, _⟩
  · simp [Value.ownBlock] at e
  · obtain rfl : g' = g := by simpa [Value.ownBlock] using e
    exact ⟨hb, (Array.getElem?_eq_some_iff.1 hh).1⟩
theorem OwnH.other {w w' : World} {base : Nat} {u v : Value} {k : Nat} {l : List HkM} (h : OwnH w base u k l) (ha : Apart u v) (hg : w.grownBy w' v.ownBlock) : OwnH w' base u k l := by
  refine World.ownsRow.kept (show w.ownsRow base 26 3 u k _ from h) hg ?_
  rcases h.2 with ⟨rfl, _⟩ | ⟨g, cap, cur, rfl, _⟩
  · exact .inl rfl
  · exact .inr (fun e => ha g rfl e.symm)
theorem OwnH.below {w w' : World} {base : Nat} {v : Value} {n : Nat} {l : List HkM} (h : OwnH w base v n l) (hb : Below w.heap.size w w') : OwnH w' base v n l := by
  obtain ⟨h1, h2 | ⟨g, cap, cur, h3, h4, h5, h6⟩⟩ := h
  · exact ⟨h1, .inl h2⟩
  · exact ⟨h1, .inr ⟨g, cap, cur, h3, h4, (hb.block g (Array.getElem?_eq_some_iff.1 h5).1).trans h5, h6⟩⟩
theorem hkinfo : (Try.prog.info? 26).map (fun i => (i.zero, i.size, i.bytes)) = some (some (.agg #[.int .i64 0, .int .i64 0, .slice none 0 0]), 3, 40) := by kernel_rfl
/-- append(v, h), h in a new row of its own. -/
theorem wpList_append_hunk {w : World} {ops : Array Oper} {rest : List Oper} {o : Oper} {ac : Act} {Q : Exit → Act → World → Prop} (hgd : o.guard = none) (s x : Operand)
    (ho : o.op = .call { callee := .builtin .append, args := #[s, x], argTypes := #[23, 23] })
    (base : Nat) (v : Value) (n : Nat) (l : List HkM) (fr to : Int) (a : Option Addr) (m c : Nat) (ys : List Int) (hm : ys.length = m) (hs : ac.eval s = v) (hown : OwnH w base v n l) (hx : ac.eval x = .slice (some ⟨w.heap.size, 0, none⟩) 1 1)
    (hsum : n + 1 ≤ 1000000) (hbase : base ≤ w.heap.size)
    (h : ∀ v' w', OwnH w' base v' (n + 1) (l ++ [⟨fr, to, a, c, ys⟩]) → (∀ u k l', OwnH w base u k l' → Apart u v → OwnH w' base u k l' ∧ Apart u v') → Below base w w' → (∃ a' c', v' = .slice a' (n + 1) c') → wpList Try.prog ops Q rest (ac.put o.dst v') w') :
    wpList Try.prog ops Q (o :: rest) ac (w.alloc (.cells #[.int .i64 fr, .int .i64 to, .slice a m c] 26)) := by
  subst hm
  obtain ⟨i0, hi, hz0, hz1, hz2⟩ := info_parts hkinfo
  have ba : Below w.heap.size w (w.alloc (.cells #[.int .i64 fr, .int .i64 to, .slice a ys.length c] 26)) := (Below.refl _ _).alloc (Nat.le_refl _) _
  have ho2 : OwnH (w.alloc (.cells #[.int .i64 fr, .int .i64 to, .slice a ys.length c] 26)) base v n l := hown.below ba
  refine wpList_append_own_at _ hgd s x 23 ho base 26 i0 (.agg #[.int .i64 0, .int .i64 0, .slice none 0 0]) 3 40 Try.underlying23 hi hz0 hz1 hz2 rfl (by decide) v n _ hs ho2 ⟨w.heap.size, 0, none⟩ 1 1 [.int .i64 fr, .int .i64 to, .slice a ys.length c] hx rfl ?_ ?_ ?_ ?_ ?_ ?_
  · intro j u hj
    have hn := heap_alloc_new w (.cells #[.int .i64 fr, .int .i64 to, .slice a ys.length c] 26)
    have hp : ∀ i, (⟨w.heap.size, 0, none⟩ : Addr).add i = ⟨w.heap.size, i, none⟩ := fun i => by unfold Addr.add; split <;> simp_all
    rw [hp, cell_of_row _ _ _ _ _ hn]
    simpa using hj
  · intro u hu
    simp at hu
    rcases hu with rfl | rfl | rfl <;> rfl
  · unfold maxLen; omega
  · omega
  · simp; omega
  · intro v' w' h1 h2 h3 h4
    have e1 : hksFlat (l ++ [⟨fr, to, a, c, ys⟩]) = hksFlat l ++ [.int .i64 fr, .int .i64 to, .slice a ys.length c] := by simp [hksFlat, hkCells]
    refine h v' w' (by unfold OwnH; rw [e1]; exact h1) (fun u k l' hu hap => ⟨(hu.below ba).other hap h2, fun b eb => ?_⟩) ?_ ?_
    · have hb := (hu.lt eb).2
      rcases h4 with h4 | h4
      · rw [h4]; exact hap b eb
      · rw [h4]
        intro e
        rw [World.size_alloc] at e
        injection e with e
        omega
    · refine ((Below.refl base w).alloc hbase _).trans ((Below.refl base _).grown h2 (by simp; omega) fun k ek => (ho2.lt ek).1)
    · rcases h1.2 with ⟨_, h0⟩ | ⟨g, cap, cur, rfl, _⟩
      · omega
      · exact ⟨_, _, rfl⟩
/-- What is asked of each hunk's bytes. -/
def HkFine (w : World) (l : List HkM) : Prop := ∀ h ∈ l, h.ys.length ≤ h.c ∧ (h.a = none → h.c = 0) ∧ h.ys.length ≤ 1000000 ∧ Bytes w h.a h.ys.length h.ys
theorem print_nil (w : World) : Calls Try.prog 9 #[.slice none 0 0] w fun e w' => e = .returned (.slice none 0 0) ∧ w' = w := by
  go_enter Try.func9, Try.ntmps9
  go_wp2
  refine wp_loop_rounds 1 ?_
  rw [rounds_succ]
  go_wp2
  go_ret
  exact ⟨rfl, rfl⟩
theorem print_own (v : Value) (n base : Nat) (l : List HkM) (w : World) (hn : n ≤ 1000) (h : OwnH w base v n l) (hf : HkFine w l) :
    Calls Try.prog 9 #[v] w fun e w' => (∃ a k c, e = .returned (.slice a k c) ∧ Own w' w.heap.size (.slice a k c) k (printOf (l.map hkM))) ∧ Below w.heap.size w w' := by
  have hl : l.length = n := by
    have := h.1
    rw [hksFlat_length] at this
    omega
  obtain ⟨h1, ⟨rfl, rfl⟩ | ⟨g, cap, cur, rfl, h3, h4, h5, h6, h7, h8⟩⟩ := h
  · obtain rfl : l = [] := List.eq_nil_of_length_eq_zero hl
    refine (print_nil w).mono ?_
    rintro e w' ⟨rfl, rfl⟩
    exact ⟨⟨none, 0, 0, rfl, ⟨rfl, .inl ⟨rfl, rfl⟩⟩⟩, Below.refl _ _⟩
  · have P : HunksAt w g 0 l := by
      intro j hk hj
      have hj' : j < l.length := (List.getElem?_eq_some_iff.1 hj).1
      have hc : ∀ i, i < 3 → w.cell? ⟨g, 0 + j * 3 + i, none⟩ = (hkCells hk)[i]? := by
        intro i hi
        rw [cell_of_row w g _ cur _ h4, ← hksFlat_get l j i hk hj hi, ← h8, List.getElem?_take_of_lt (by omega), Array.getElem?_toList, Nat.zero_add]
      obtain ⟨f1, f2, f3, f4⟩ := hf hk (List.mem_of_getElem? hj)
      exact ⟨hc 0 (by omega), hc 1 (by omega), hc 2 (by omega), f1, f2, f3, f4⟩
    have := print_any g 0 cap l w (by omega) P (Array.getElem?_eq_some_iff.1 h4).1
    rwa [hl] at this
end Go.Proofs.Ytbkifjmfmiipnaa
