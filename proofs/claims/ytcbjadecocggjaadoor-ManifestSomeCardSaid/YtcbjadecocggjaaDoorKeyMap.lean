/- A map of which the keys alone count. -/
import Derived.Test.YtcbjadecocggjaaDoorRows
import Derived.Maps.Keyed
import Derived.Maps.Own
namespace Go.Proofs.YtcbjadecocggjaaDoor
open Go.RowKit Go.WideMaps Go.Maps
set_option linter.unusedVariables false
/-- Block b is a map whose keys are just those of ks. -/
def KeyMap {α : Type} (P : Program) (kt it : TypeId) (mk : α → Value) (w : World) (b : Nat) (ks : List α) : Prop :=
  ∃ es clock, w.heap[b]? = some (.map es clock) ∧ WideElems.Fit P kt (plainElem (H := Unit) P it) es clock ∧ es.size ≤ ks.length ∧
    (∀ x ∈ es.toList, ∃ a ∈ ks, x.key = mk a) ∧ (∀ a ∈ ks, ∃ x ∈ es.toList, x.key = mk a)
section
variable {α : Type} {P : Program} {kt it t : TypeId} {mk : α → Value} {w w' : World} {b : Nat} {ks : List α}
theorem KeyMap.made (w : World) (P : Program) (kt it : TypeId) (mk : α → Value) : KeyMap P kt it mk (w.alloc (.map #[] 0)) w.heap.size [] := by
  obtain ⟨es, clock, h1, h2, h3, -⟩ := World.ownsMap_made (H := Unit) w P kt (plainElem P it)
  have h0 : es.size = 0 := by omega
  refine ⟨es, clock, h1, h2, by rw [h0]; exact Nat.zero_le _, fun x hx => ?_, fun a ha => by cases ha⟩
  obtain ⟨l⟩ := es
  have : l = [] := List.eq_nil_of_length_eq_zero (by simpa using h0)
  subst this
  cases hx
theorem KeyMap.lt (h : KeyMap P kt it mk w b ks) : b < w.heap.size := by
  obtain ⟨es, clock, hb, -⟩ := h
  exact (Array.getElem?_eq_some_iff.1 hb).1
theorem KeyMap.block (h : KeyMap P kt it mk w b ks) (hb : w'.heap[b]? = w.heap[b]?) : KeyMap P kt it mk w' b ks := by
  obtain ⟨es, clock, h1, h2⟩ := h
  exact ⟨es, clock, hb.trans h1, h2⟩
theorem KeyMap.below {n : Nat} (h : KeyMap P kt it mk w b ks) (hb : Below n w w') (hn : b < n) : KeyMap P kt it mk w' b ks := h.block (hb.block b hn)
theorem KeyMap.has (h : KeyMap P kt it mk w b ks) (K : Keyed P kt) (ht : P.underlying t = some (.map kt it)) {z : Value} (hz : (zeroValue it).run P w = .ok z w)
    (hinj : ∀ a a' : α, mk a = mk a' → a = a') (a : α) {kl : Lit} (hk : keyOf P kt (mk a) = some kl) :
    ∃ (v : Value) (o : Bool), (Instr.lookup t (.map (some b)) (mk a) true).run P w = .ok (.tuple #[v, .bool o]) w ∧ (o = true ↔ a ∈ ks) := by
  obtain ⟨es, clock, h1, h2, h3, h4, h5⟩ := h
  rcases Maps.fit_look true K ht hz h1 h2 hk with ⟨hrun, hno, -⟩ | ⟨e0, y, hm, hke, hrun, -, -, -⟩
  · refine ⟨_, _, by simpa using hrun, ⟨fun h => (by cases h), fun ha => ?_⟩⟩
    obtain ⟨x, hx, e⟩ := h5 a ha
    exact absurd e (hno x hx)
  · refine ⟨_, _, by simpa using hrun, ⟨fun _ => ?_, fun _ => rfl⟩⟩
    obtain ⟨a', ha', e1⟩ := h4 e0 hm
    have : a' = a := hinj _ _ (e1.symm.trans hke)
    exact this ▸ ha'
theorem KeyMap.store (h : KeyMap P kt it mk w b ks) (K : Keyed P kt) (ht : P.underlying t = some (.map kt it)) (hi : P.underlying it = some (.int .i64))
    (hinj : ∀ a a' : α, mk a = mk a' → a = a') (hn : ks.length < 1000000000) (a : α) {kl : Lit} (hk : keyOf P kt (mk a) = some kl) (c : Int) (hc0 : 0 ≤ c) (hc1 : c ≤ 1000000000) :
    ∃ w', (Instr.mapUpdate t (.map (some b)) (mk a) (.int .i64 c)).run P w = .ok () w' ∧ KeyMap P kt it mk w' b (a :: ks) ∧ w.grownBy w' (some b) := by
  obtain ⟨es, clock, h1, h2, h3, h4, h5⟩ := h
  have hw : (Lit.int .i64 c).wf = true := by
    have e1 : IntKind.min .i64 = -9223372036854775808 := by decide
    have e2 : IntKind.max .i64 = 9223372036854775807 := by decide
    show (decide (IntKind.min .i64 ≤ c) && decide (c ≤ IntKind.max .i64)) = true
    rw [e1, e2]; simp; omega
  obtain ⟨es', clock', hrun, F', hput, -, -, hmem⟩ := Maps.fit_store (R' := plainElem (H := Unit) P it) K ht h1 h2 (by unfold maxLen; omega) (fun _ _ _ _ hz => hz) hk (plainElem_int hi hw)
  have hsz : es'.size = ((es.toList.map (WideElems.rg P kt (plainElem (H := Unit) P it))).filter (ChangeMaps.notKey kl)).length + 1 := by
    have e1 : es'.size = ((es'.toList.map (WideElems.rg P kt (plainElem (H := Unit) P it))).foldr DataW.insert []).length := by rw [length_sorted]; simp
    rw [e1, hput]
    unfold ChangeMaps.putKey
    rw [length_insert, ((WideShapes.sorted_perm _).filter _).length_eq]
  have hnew : ∃ x ∈ es'.toList, x.key = mk a := by
    have hlen : 0 < es'.toList.length := by rw [Array.length_toList, hsz]; omega
    rcases Classical.em (∃ x ∈ es'.toList, x.key = mk a) with hx | hx
    · exact hx
    · exfalso
      have hall : ∀ x ∈ es'.toList, x.key ≠ mk a := fun x hx' e => hx ⟨x, hx', e⟩
      have e1 := Maps.filter_all K F' hk hall
      have e2 : ((es'.toList.map (WideElems.rg P kt (plainElem (H := Unit) P it))).foldr DataW.insert []).filter (ChangeMaps.notKey kl) = (es'.toList.map (WideElems.rg P kt (plainElem (H := Unit) P it))).foldr DataW.insert [] := by
        refine List.filter_eq_self.2 fun p hp => ?_
        have := List.filter_eq_self.1 e1 p ((WideShapes.sorted_perm _).mem_iff.1 hp)
        exact this
      have hin : (kl, (DataW.lit (.int .i64 c) : DataW Unit)) ∈ (es'.toList.map (WideElems.rg P kt (plainElem (H := Unit) P it))).foldr DataW.insert [] := by
        rw [hput]
        unfold ChangeMaps.putKey
        exact (WideShapes.insert_perm _ _).mem_iff.2 (List.mem_cons_self ..)
      have := List.filter_eq_self.1 e2 _ hin
      exact (Maps.notKey_iff (K.key hk)).1 this rfl
  have hkeep : ∀ x ∈ es.toList, x.key ≠ mk a → ∃ x' ∈ es'.toList, x'.key = x.key := fun x hx hne => by
    obtain ⟨y, hy⟩ := h2.reads x hx
    have hin : WideElems.rg P kt (plainElem (H := Unit) P it) x ∈ (es'.toList.map (WideElems.rg P kt (plainElem (H := Unit) P it))) := by
      refine (WideShapes.sorted_perm _).mem_iff.1 ?_
      rw [hput]
      unfold ChangeMaps.putKey
      refine (WideShapes.insert_perm _ _).mem_iff.2 (List.mem_cons_of_mem _ (List.mem_filter.2 ⟨(WideShapes.sorted_perm _).mem_iff.2 (List.mem_map.2 ⟨x, hx, rfl⟩), ?_⟩))
      refine (Maps.notKey_iff (K.key hk)).2 fun e => hne ?_
      rw [WideElems.rg_of hy] at e
      exact K.inj (WideElems.rd_key hy) (e ▸ hk)
    obtain ⟨x', hx', e⟩ := List.mem_map.1 hin
    obtain ⟨y', hy'⟩ := F'.reads x' hx'
    refine ⟨x', hx', ?_⟩
    rw [WideElems.rg_of hy, WideElems.rg_of hy'] at e
    exact K.inj (WideElems.rd_key hy') (e ▸ WideElems.rd_key hy)
  refine ⟨_, hrun, ⟨es', clock', ChangeMaps.heap_setBlock_same h1 _, F', ?_, ?_, ?_⟩, ⟨rfl, rfl, rfl, by simp [ChangeMaps.setBlock], fun i _ hi => ChangeMaps.heap_setBlock_other h1 _ (fun e => hi (by rw [e]))⟩⟩
  · rw [hsz, List.length_cons]
    have := List.length_filter_le (ChangeMaps.notKey kl) (es.toList.map (WideElems.rg P kt (plainElem (H := Unit) P it)))
    rw [List.length_map] at this
    have h9 : es.toList.length = es.size := Array.length_toList
    omega
  · intro x' hx'
    rcases hmem x' hx' with ⟨hx, hne⟩ | ⟨e1, e2⟩
    · obtain ⟨a', ha', e1⟩ := h4 x' hx
      exact ⟨a', List.mem_cons_of_mem _ ha', e1⟩
    · exact ⟨a, List.mem_cons_self .., e1⟩
  · intro a' ha'
    rcases List.mem_cons.1 ha' with rfl | ha'
    · exact hnew
    · obtain ⟨x, hx, e⟩ := h5 a' ha'
      by_cases hne : x.key = mk a
      · obtain ⟨x1, hx1, e1⟩ := hnew
        exact ⟨x1, hx1, e1.trans (hne.symm.trans e)⟩
      · obtain ⟨x1, hx1, e1⟩ := hkeep x hx hne
        exact ⟨x1, hx1, e1.trans e⟩
end
end Go.Proofs.YtcbjadecocggjaaDoor
