/- A map that counts: its keys are those that were counted, each once, and its element tells how often. -/
import Derived.Test.YthemolkmciofaaaDoorRows
import Derived.Maps.Keyed
import Derived.Maps.Own
import Derived.WideKeyEntry
namespace Go.Proofs.YthemolkmciofaaaDoor
open Go.RowKit Go.WideMaps Go.Maps
set_option linter.unusedVariables false
/-- How many unlike ones there are. -/
def dn {α : Type} [DecidableEq α] : List α → Nat
  | [] => 0
  | k :: l => dn l + if k ∈ l then 0 else 1
theorem dn_le {α : Type} [DecidableEq α] : ∀ l : List α, dn l ≤ l.length
  | [] => Nat.le_refl _
  | k :: l => by
    have := dn_le l
    show dn l + _ ≤ l.length + 1
    split <;> omega
theorem dn_all {α : Type} [DecidableEq α] : ∀ l : List α, dn l = l.length ↔ l.Nodup
  | [] => ⟨fun _ => List.nodup_nil, fun _ => rfl⟩
  | k :: l => by
    have h1 := dn_le l
    have h2 := dn_all l
    rw [List.nodup_cons, ← h2]
    show dn l + _ = l.length + 1 ↔ _
    by_cases hk : k ∈ l
    · rw [if_pos hk]
      exact ⟨fun h => by omega, fun h => absurd hk h.1⟩
    · rw [if_neg hk]
      exact ⟨fun h => ⟨hk, by omega⟩, fun h => by omega⟩
/-- How often. -/
def cnt {α : Type} [DecidableEq α] (a : α) (ks : List α) : Nat := ks.count a
theorem cnt_zero {α : Type} [DecidableEq α] {a : α} {ks : List α} (h : a ∉ ks) : cnt a ks = 0 := List.count_eq_zero_of_not_mem h
theorem cnt_le {α : Type} [DecidableEq α] (a : α) (ks : List α) : cnt a ks ≤ ks.length := List.count_le_length
theorem cnt_ne {α : Type} [DecidableEq α] {a b : α} (h : a ≠ b) (ks : List α) : cnt b (a :: ks) = cnt b ks := List.count_cons_of_ne h
theorem cnt_self {α : Type} [DecidableEq α] (a : α) (ks : List α) : cnt a (a :: ks) = cnt a ks + 1 := List.count_cons_self
/-- Block b is a map that has counted ks. -/
def CountMap {α : Type} [DecidableEq α] (P : Program) (kt it : TypeId) (mk : α → Value) (w : World) (b : Nat) (ks : List α) : Prop :=
  ∃ es clock, w.heap[b]? = some (.map es clock) ∧ WideElems.Fit P kt (plainElem (H := Unit) P it) es clock ∧ es.size = dn ks ∧
    (∀ x ∈ es.toList, ∃ a ∈ ks, x.key = mk a ∧ x.val = .int .i64 ((cnt a ks : Nat) : Int)) ∧ (∀ a ∈ ks, ∃ x ∈ es.toList, x.key = mk a)
section
variable {α : Type} [DecidableEq α] {P : Program} {kt it t : TypeId} {mk : α → Value} {w w' : World} {b : Nat} {ks : List α}
theorem CountMap.made (w : World) (P : Program) (kt it : TypeId) (mk : α → Value) : CountMap P kt it mk (w.alloc (.map #[] 0)) w.heap.size [] := by
  obtain ⟨es, clock, h1, h2, h3, -⟩ := World.ownsMap_made (H := Unit) w P kt (plainElem P it)
  have h0 : es.size = 0 := by omega
  refine ⟨es, clock, h1, h2, h0, fun x hx => ?_, fun a ha => by cases ha⟩
  obtain ⟨l⟩ := es
  have : l = [] := List.eq_nil_of_length_eq_zero (by simpa using h0)
  subst this
  cases hx
theorem CountMap.lt (h : CountMap P kt it mk w b ks) : b < w.heap.size := by
  obtain ⟨es, clock, hb, -⟩ := h
  exact (Array.getElem?_eq_some_iff.1 hb).1
theorem CountMap.block (h : CountMap P kt it mk w b ks) (hb : w'.heap[b]? = w.heap[b]?) : CountMap P kt it mk w' b ks := by
  obtain ⟨es, clock, h1, h2⟩ := h
  exact ⟨es, clock, hb.trans h1, h2⟩
theorem CountMap.kept {row : Option Nat} (h : CountMap P kt it mk w b ks) (hg : w.grownBy w' row) (hne : some b ≠ row) : CountMap P kt it mk w' b ks :=
  h.block (hg.block b h.lt hne)
theorem CountMap.below {n : Nat} (h : CountMap P kt it mk w b ks) (hb : Below n w w') (hn : b < n) : CountMap P kt it mk w' b ks := h.block (hb.block b hn)
theorem CountMap.len (h : CountMap P kt it mk w b ks) : ∃ es clock, w.heap[b]? = some (.map es clock) ∧ es.size = dn ks := by
  obtain ⟨es, clock, h1, -, h3, -⟩ := h
  exact ⟨es, clock, h1, h3⟩
theorem CountMap.look (h : CountMap P kt it mk w b ks) (K : Keyed P kt) (ht : P.underlying t = some (.map kt it)) (hz : (zeroValue it).run P w = .ok (.int .i64 0) w)
    (hinj : ∀ a a' : α, mk a = mk a' → a = a') (a : α) {kl : Lit} (hk : keyOf P kt (mk a) = some kl) :
    (Instr.lookup t (.map (some b)) (mk a) false).run P w = .ok (.int .i64 ((cnt a ks : Nat) : Int)) w := by
  obtain ⟨es, clock, h1, h2, h3, h4, h5⟩ := h
  rcases Maps.fit_look false K ht hz h1 h2 hk with ⟨hrun, hno, -⟩ | ⟨e0, y, hm, hke, hrun, -, -, -⟩
  · have hn : a ∉ ks := fun ha => by
      obtain ⟨x, hx, e⟩ := h5 a ha
      exact hno x hx e
    rw [cnt_zero hn]
    simpa using hrun
  · obtain ⟨a', -, e1, e2⟩ := h4 e0 hm
    have : a' = a := hinj _ _ (e1.symm.trans hke)
    subst this
    rw [e2] at hrun
    simpa using hrun
theorem CountMap.has (h : CountMap P kt it mk w b ks) (K : Keyed P kt) (ht : P.underlying t = some (.map kt it)) (hz : (zeroValue it).run P w = .ok (.int .i64 0) w)
    (hinj : ∀ a a' : α, mk a = mk a' → a = a') (a : α) {kl : Lit} (hk : keyOf P kt (mk a) = some kl) :
    (Instr.lookup t (.map (some b)) (mk a) true).run P w = .ok (.tuple #[.int .i64 ((cnt a ks : Nat) : Int), .bool (decide (a ∈ ks))]) w := by
  obtain ⟨es, clock, h1, h2, h3, h4, h5⟩ := h
  rcases Maps.fit_look true K ht hz h1 h2 hk with ⟨hrun, hno, -⟩ | ⟨e0, y, hm, hke, hrun, -, -, -⟩
  · have hn : a ∉ ks := fun ha => by
      obtain ⟨x, hx, e⟩ := h5 a ha
      exact hno x hx e
    rw [cnt_zero hn, decide_eq_false hn]
    simpa using hrun
  · obtain ⟨a', ha', e1, e2⟩ := h4 e0 hm
    have : a' = a := hinj _ _ (e1.symm.trans hke)
    subst this
    rw [e2] at hrun
    rw [decide_eq_true ha']
    simpa using hrun
theorem CountMap.store (h : CountMap P kt it mk w b ks) (K : Keyed P kt) (ht : P.underlying t = some (.map kt it)) (hi : P.underlying it = some (.int .i64))
    (hinj : ∀ a a' : α, mk a = mk a' → a = a') (hn : ks.length < 1000000000) (a : α) {kl : Lit} (hk : keyOf P kt (mk a) = some kl) (c : Int) (hc : c = ((cnt a ks : Nat) : Int) + 1) :
    ∃ w', (Instr.mapUpdate t (.map (some b)) (mk a) (.int .i64 c)).run P w = .ok () w' ∧ CountMap P kt it mk w' b (a :: ks) ∧ w.grownBy w' (some b) := by
  obtain ⟨es, clock, h1, h2, h3, h4, h5⟩ := h
  have hdn := dn_le ks
  have hcl := cnt_le a ks
  have hw : (Lit.int .i64 c).wf = true := by
    have e1 : IntKind.min .i64 = -9223372036854775808 := by decide
    have e2 : IntKind.max .i64 = 9223372036854775807 := by decide
    show (decide (IntKind.min .i64 ≤ c) && decide (c ≤ IntKind.max .i64)) = true
    rw [e1, e2]; simp; omega
  obtain ⟨es', clock', hrun, F', hput, -, -, hmem⟩ := Maps.fit_store (R' := plainElem (H := Unit) P it) K ht h1 h2 (by unfold maxLen; omega) (fun _ _ _ _ hz => hz) hk (plainElem_int hi hw)
  have hsz : es'.size = ((es.toList.map (WideElems.rg P kt (plainElem (H := Unit) P it))).filter (ChangeMaps.notKey kl)).length + 1 := by
    have e1 : es'.size = ((es'.toList.map (WideElems.rg P kt (plainElem (H := Unit) P it))).foldr DataW.insert []).length := by rw [length_sorted]; simp
    rw [e1, hput]
    unfold ChangeMaps.putKey
    rw [length_insert, ((WideShapes.sorted_perm _).filter _).length_eq]
  have hnew : ∃ x ∈ es'.toList, x.key = mk a := by
    have hlen : 0 < es'.toList.length := by rw [Array.length_toList, hsz]; omega
    rcases Classical.em (∃ x ∈ es'.toList, x.key = mk a) with hx | hx
    · exact hx
    · exfalso
      have hall : ∀ x ∈ es'.toList, x.key ≠ mk a := fun x hx' e => hx ⟨x, hx', e⟩
      have e1 := Maps.filter_all K F' hk hall
      have e2 : ((es'.toList.map (WideElems.rg P kt (plainElem (H := Unit) P it))).foldr DataW.insert []).filter (ChangeMaps.notKey kl) = (es'.toList.map (WideElems.rg P kt (plainElem (H := Unit) P it))).foldr DataW.insert [] := by
        refine List.filter_eq_self.2 fun p hp => ?_
        have := List.filter_eq_self.1 e1 p ((WideShapes.sorted_perm _).mem_iff.1 hp)
        exact this
      have hin : (kl, (DataW.lit (.int .i64 c) : DataW Unit)) ∈ (es'.toList.map (WideElems.rg P kt (plainElem (H := Unit) P it))).foldr DataW.insert [] := by
        rw [hput]
        unfold ChangeMaps.putKey
        exact (WideShapes.insert_perm _ _).mem_iff.2 (List.mem_cons_self ..)
      have := List.filter_eq_self.1 e2 _ hin
      exact (Maps.notKey_iff (K.key hk)).1 this rfl
  have hkeep : ∀ x ∈ es.toList, x.key ≠ mk a → ∃ x' ∈ es'.toList, x'.key = x.key := fun x hx hne => by
    obtain ⟨y, hy⟩ := h2.reads x hx
    have hin : WideElems.rg P kt (plainElem (H := Unit) P it) x ∈ (es'.toList.map (WideElems.rg P kt (plainElem (H := Unit) P it))) := by
      refine (WideShapes.sorted_perm _).mem_iff.1 ?_
      rw [hput]
      unfold ChangeMaps.putKey
      refine (WideShapes.insert_perm _ _).mem_iff.2 (List.mem_cons_of_mem _ (List.mem_filter.2 ⟨(WideShapes.sorted_perm _).mem_iff.2 (List.mem_map.2 ⟨x, hx, rfl⟩), ?_⟩))
      refine (Maps.notKey_iff (K.key hk)).2 fun e => hne ?_
      rw [WideElems.rg_of hy] at e
      exact K.inj (WideElems.rd_key hy) (e ▸ hk)
    obtain ⟨x', hx', e⟩ := List.mem_map.1 hin
    obtain ⟨y', hy'⟩ := F'.reads x' hx'
    refine ⟨x', hx', ?_⟩
    rw [WideElems.rg_of hy, WideElems.rg_of hy'] at e
    exact K.inj (WideElems.rd_key hy') (e ▸ WideElems.rd_key hy)
  refine ⟨_, hrun, ⟨es', clock', ChangeMaps.heap_setBlock_same h1 _, F', ?_, ?_, ?_⟩, ⟨rfl, rfl, rfl, by simp [ChangeMaps.setBlock], fun i _ hi => ChangeMaps.heap_setBlock_other h1 _ (fun e => hi (by rw [e]))⟩⟩
  · rw [hsz]
    show _ = dn ks + if a ∈ ks then 0 else 1
    by_cases ha : a ∈ ks
    · rw [if_pos ha]
      obtain ⟨x, hx, e⟩ := h5 a ha
      obtain ⟨j, hj⟩ := List.mem_iff_getElem?.1 hx
      rw [Maps.filter_one K h2 hk hj e, List.length_eraseIdx]
      have hjl := (List.getElem?_eq_some_iff.1 hj).1
      simp at hjl ⊢
      rw [if_pos hjl]
      omega
    · rw [if_neg ha, Maps.filter_all K h2 hk (fun x hx e => by
        obtain ⟨a', ha', e1, -⟩ := h4 x hx
        exact ha (hinj _ _ (e1.symm.trans e) ▸ ha'))]
      simp; omega
  · intro x' hx'
    rcases hmem x' hx' with ⟨hx, hne⟩ | ⟨e1, e2⟩
    · obtain ⟨a', ha', e1, e2⟩ := h4 x' hx
      have : a ≠ a' := fun e => hne (e1.trans (by rw [e]))
      exact ⟨a', List.mem_cons_of_mem _ ha', e1, by rw [cnt_ne this]; exact e2⟩
    · refine ⟨a, List.mem_cons_self .., e1, ?_⟩
      rw [e2, cnt_self, hc]
      simp
  · intro a' ha'
    rcases List.mem_cons.1 ha' with rfl | ha'
    · exact hnew
    · obtain ⟨x, hx, e⟩ := h5 a' ha'
      by_cases hne : x.key = mk a
      · obtain ⟨x1, hx1, e1⟩ := hnew
        exact ⟨x1, hx1, e1.trans (hne.symm.trans e)⟩
      · obtain ⟨x1, hx1, e1⟩ := hkeep x hx hne
        exact ⟨x1, hx1, e1.trans e⟩
theorem CountMap.entry (h : CountMap P kt it mk w b ks) (K : KeyLaw P kt) (ht : P.underlying t = some (.map kt it)) (hz : ∀ u : World, (zeroValue it).run P u = .ok (.int .i64 0) u) (hi : P.underlying it = some (.int .i64))
    (hinj : ∀ a a' : α, mk a = mk a' → a = a') (hn : ks.length < 1000000000) (a : α) {kl : Lit} (hk : keyOf P kt (mk a) = some kl) :
    ∃ (st : Nat) (es1 : Array MapEntry) (clock1 : Nat), (Instr.mapEntry t (.map (some b)) (mk a)).run P w = .ok (.tuple #[.int .i64 ((cnt a ks : Nat) : Int), .int .i64 st]) (ChangeMaps.setBlock w b (.map es1 clock1)) ∧
      (Instr.lookup t (.map (some b)) (mk a) false).run P w = .ok (.int .i64 ((cnt a ks : Nat) : Int)) w ∧ (ChangeMaps.setBlock w b (.map es1 clock1)).heap[b]? = some (.map es1 clock1) ∧ w.grownBy (ChangeMaps.setBlock w b (.map es1 clock1)) (some b) ∧
      ∀ w2 : World, w2.heap[b]? = some (.map es1 clock1) → (Instr.lookup t (.map (some b)) (mk a) false).run P w2 = .ok (.int .i64 ((cnt a ks : Nat) : Int)) w2 ∧
        ∃ w3, (Instr.entryStore t (.map (some b)) (.int .i64 st) (.int .i64 (((cnt a ks : Nat) : Int) + 1))).run P w2 = .ok () w3 ∧ CountMap P kt it mk w3 b (a :: ks) ∧ w2.grownBy w3 (some b) := by
  have KK : Keyed P kt := Keyed.of_law K
  have hlk := h.look KK ht (hz w) hinj a hk
  obtain ⟨w', hup, hc', -⟩ := h.store KK ht hi hinj hn a hk (((cnt a ks : Nat) : Int) + 1) rfl
  obtain ⟨es, clock, h1, h2, h3, h4, h5⟩ := h
  obtain ⟨v0, st, es1, clock1, e1, e2, e3⟩ := WideElems.entry_then_store K ht hz h1 h2 hk
  have hv0 : v0 = .int .i64 ((cnt a ks : Nat) : Int) := by
    rcases e2 with ⟨e0, he0, hke, rfl⟩ | ⟨hno, rfl⟩
    · obtain ⟨a', -, f1, f2⟩ := h4 e0 he0
      have : a' = a := hinj _ _ (f1.symm.trans hke)
      subst this
      exact f2
    · have hn' : a ∉ ks := fun ha => by
        obtain ⟨x, hx, e⟩ := h5 a ha
        exact hno x hx e
      rw [cnt_zero hn']
      rfl
  subst hv0
  refine ⟨st, es1, clock1, e1, hlk, ChangeMaps.heap_setBlock_same h1 _, ⟨rfl, rfl, rfl, by simp [ChangeMaps.setBlock], fun i _ hi => ChangeMaps.heap_setBlock_other h1 _ (fun e => hi (by rw [e]))⟩, fun w2 hw2 => ⟨?_, ?_⟩⟩
  · -- the look behind the entry
    have hme := e1
    rcases K.find w hk es.toList h2.keys with ⟨g1, g2⟩ | ⟨j, e0, g1, g2, g3⟩
    · have he1 : es1 = es.push ⟨mk a, .int .i64 0, clock⟩ := by
        have := hme
        simp [Instr.mapEntry, run_underlying ht, MapKept.run_getObj_map h1, K.check w false hk, g1, hz, MapKept.run_setObj_map _ h1, Result.andThen] at this
        have h6 := congrArg (fun W : World => W.heap[b]?) this.2
        have hlt : b < w.heap.size := (Array.getElem?_eq_some_iff.1 h1).1
        simp [ChangeMaps.setBlock, hlt] at h6
        exact h6.1.symm
      have hrd : ∀ e ∈ es1.toList, ∃ l, keyOf P kt e.key = some l := fun e he => by
        rw [he1, Array.toList_push] at he
        rcases List.mem_append.1 he with he | he
        · exact h2.keys e he
        · rw [List.mem_singleton.1 he]; exact ⟨kl, hk⟩
      have hn' : a ∉ ks := fun ha => by
        obtain ⟨x, hx, e⟩ := h5 a ha
        exact g2 x hx e
      rw [cnt_zero hn']
      rcases K.find w2 hk es1.toList hrd with ⟨p1, p2⟩ | ⟨j, e0, p1, p2, p3⟩
      · exact absurd rfl (p2 ⟨mk a, .int .i64 0, clock⟩ (by rw [he1, Array.toList_push]; simp))
      · have hm := List.mem_of_getElem? p2
        rw [he1, Array.toList_push] at hm
        have hv : e0.val = .int .i64 0 := by
          rcases List.mem_append.1 hm with hm | hm
          · exact absurd p3 (g2 e0 hm)
          · rw [List.mem_singleton.1 hm]
        rw [hv] at p1
        simp [Instr.lookup, run_underlying ht, MapKept.run_getObj_map hw2, K.check w2 _ hk, p1, Result.andThen]
    · have he1 : es1 = es.modify j (fun e => { e with key := mk a }) ∧ e0.val = .int .i64 ((cnt a ks : Nat) : Int) := by
        have hj : es[j]? = some e0 := by simpa using g2
        have := hme
        simp [Instr.mapEntry, run_underlying ht, MapKept.run_getObj_map h1, K.check w false hk, g1, hj, g3, K.stays w hk, MapKept.run_setObj_map _ h1, Result.andThen] at this
        have h6 := congrArg (fun W : World => W.heap[b]?) this.2
        have hlt : b < w.heap.size := (Array.getElem?_eq_some_iff.1 h1).1
        simp [ChangeMaps.setBlock, hlt] at h6
        exact ⟨h6.1.symm, this.1.1⟩
      have hsame : es1.toList = es.toList := by
        rw [he1.1, Array.toList_modify, ChangeMaps.modify_eq_set _ _ _ _ g2]
        have : ({ e0 with key := mk a } : MapEntry) = e0 := by rw [← g3]
        rw [this]
        exact WideElems.set_self _ _ _ g2
      rcases K.find w2 hk es1.toList (by rw [hsame]; exact h2.keys) with ⟨p1, p2⟩ | ⟨j', e', p1, p2, p3⟩
      · rw [hsame] at p2
        exact absurd g3 (p2 e0 (List.mem_of_getElem? g2))
      · rw [hsame] at p2
        obtain ⟨a', -, f1, f2⟩ := h4 e' (List.mem_of_getElem? p2)
        have : a' = a := hinj _ _ (f1.symm.trans p3)
        subst this
        rw [f2] at p1
        simp [Instr.lookup, run_underlying ht, MapKept.run_getObj_map hw2, K.check w2 _ hk, p1, Result.andThen]
  · obtain ⟨es', clock', s1, s2⟩ := e3 w2 (.int .i64 (((cnt a ks : Nat) : Int) + 1)) hw2
    refine ⟨_, s1, ?_, ⟨rfl, rfl, rfl, by simp [ChangeMaps.setBlock], fun i _ hi => ChangeMaps.heap_setBlock_other hw2 _ (fun e => hi (by rw [e]))⟩⟩
    rw [hup] at s2
    injection s2 with s2 s3
    subst s3
    exact hc'.block ((ChangeMaps.heap_setBlock_same hw2 _).trans (ChangeMaps.heap_setBlock_same h1 _).symm)
end
end Go.Proofs.YthemolkmciofaaaDoor
