/- Rows of records of k cells, whatever is told in them; a change as a struct. -/
import Derived.Test.YtindmggmblmmcaaGreatDoorChNum
import Derived.Laws.Cover1
import Derived.OpenShut
import Derived.Deep.AppendLies
import Derived.Deep.MidRow
import Derived.Deep.RegionHeld3
import Derived.Great.BuildSlice
import Derived.ChangeArms
import Derived.ChangeSlices
import Derived.ChangeAt
import Derived.ChangeSame
import Derived.Deep.Strs
namespace Go.Proofs.YtindmggmblmmcaaGreatDoor
open Go.RowKit Plain Go.ChangeShapes Go.WideShapes Go.ChangeAt Go.Great
set_option linter.unusedVariables false
section
variable {α : Type} {k : Nat} {enc : α → List Value}
theorem range_below {w w' : World} {b o n : Nat} {cs : List Value} (h : w.rangeAt b o cs) (hb : Below n w w') (hn : b < n) : w'.rangeAt b o cs := fun j v hj => (hb.cell (p := ⟨b, o + j, none⟩) hn).trans (h j v hj)
/-- They lie in a row. -/
def RowAt (k : Nat) (enc : α → List Value) (w : World) (a : Option Addr) (xs : List α) : Prop := xs.length = 0 ∨ ∃ b off, a = some ⟨b, off, none⟩ ∧ b < w.heap.size ∧ ∀ (j : Nat) x, xs[j]? = some x → w.rangeAt b (off + j * k) (enc x)
theorem RowAt.below {w w' : World} {a : Option Addr} {xs : List α} (h : RowAt k enc w a xs) (hb : Below w.heap.size w w') : RowAt k enc w' a xs :=
  Or.imp id (fun ⟨b, off, e, hl, hc⟩ => ⟨b, off, e, Nat.lt_of_lt_of_le hl hb.size, fun j p hj => range_below (hc j p hj) hb hl⟩) h
theorem RowAt.at {w : World} {a : Option Addr} {xs : List α} (h : RowAt k enc w a xs) {j : Nat} (hj : j < xs.length) : ∃ b off x, a = some ⟨b, off, none⟩ ∧ xs[j]? = some x ∧ b < w.heap.size ∧ w.rangeAt b (off + j * k) (enc x) := by
  rcases h with h0 | ⟨b, off, rfl, hl, hc⟩
  · omega
  · have hg : xs[j]? = some (xs[j]'hj) := List.getElem?_eq_getElem hj
    exact ⟨b, off, _, rfl, hg, hl, hc j _ hg⟩
theorem RowAt.nil (w : World) (a : Option Addr) : RowAt k enc w a [] := .inl rfl
/-- They lie in a row of the call's own. -/
def OwnG (k : Nat) (enc : α → List Value) (e : TypeId) (w : World) (base : Nat) (v : Value) (xs : List α) : Prop := w.ownsRow base e k v xs.length (xs.flatMap enc)
theorem flat_len (hk : ∀ x, (enc x).length = k) : ∀ xs : List α, (xs.flatMap enc).length = xs.length * k
  | [] => by simp
  | x :: xs => by rw [List.flatMap_cons, List.length_append, hk, flat_len hk xs, List.length_cons, Nat.succ_mul]; omega
theorem flat_get (hk : ∀ x, (enc x).length = k) : ∀ (xs : List α) (j i : Nat) (x : α), xs[j]? = some x → i < k → (xs.flatMap enc)[j * k + i]? = (enc x)[i]?
  | [], j, i, x, h, _ => by simp at h
  | q :: xs, 0, i, x, h, hi => by
    simp at h
    subst h
    rw [List.flatMap_cons, Nat.zero_mul, Nat.zero_add, List.getElem?_append_left (by rw [hk]; exact hi)]
  | q :: xs, j + 1, i, x, h, hi => by
    rw [List.flatMap_cons, List.getElem?_append_right (by rw [hk, Nat.succ_mul]; omega), hk, show (j + 1) * k + i - k = j * k + i by rw [Nat.succ_mul]; omega]
    exact flat_get hk xs j i x (by simpa using h) hi
theorem OwnG.at {e : TypeId} {w : World} {base : Nat} {v : Value} {xs : List α} (hk : ∀ x, (enc x).length = k) (h : OwnG k enc e w base v xs) : ∃ a c, v = .slice a xs.length c ∧ RowAt k enc w a xs ∧ xs.length ≤ c ∧ (a = none → c = 0) := by
  have h1 := h
  obtain ⟨h2, ⟨rfl, h0⟩ | ⟨g, cap, cur, rfl, h3, h4, h5, h6, h7, h8⟩⟩ := h
  · rw [h0]; exact ⟨none, 0, rfl, .inl h0, by omega, fun _ => rfl⟩
  · refine ⟨some ⟨g, 0, none⟩, cap, rfl, .inr ⟨g, 0, rfl, (Array.getElem?_eq_some_iff.1 h4).1, fun j p hj i v hv => ?_⟩, h5, fun e => by cases e⟩
    have hjl : j < xs.length := (List.getElem?_eq_some_iff.1 hj).1
    have hi : i < k := by
      have := (List.getElem?_eq_some_iff.1 hv).1
      rw [hk] at this; exact this
    have hlt : j * k + i < xs.length * k := by
      have := Nat.mul_le_mul_right k (show j + 1 ≤ xs.length by omega)
      rw [Nat.succ_mul] at this; omega
    rw [Nat.zero_add, World.ownsRow.cellAt h1 (j * k + i) hlt, flat_get hk xs j i p hj hi, hv]
theorem OwnG.lt {e : TypeId} {w : World} {base : Nat} {v : Value} {xs : List α} (h : OwnG k enc e w base v xs) {g : Nat} (hg : v.ownBlock = some g) : base ≤ g ∧ g < w.heap.size := World.ownsRow.lt h g hg
theorem OwnG.below {e : TypeId} {w w' : World} {base : Nat} {v : Value} {xs : List α} (h : OwnG k enc e w base v xs) (hb : Below w.heap.size w w') : OwnG k enc e w' base v xs := by
  obtain ⟨h1, h2 | ⟨g, cap, cur, h3, h4, h5, h6⟩⟩ := h
  · exact ⟨h1, .inl h2⟩
  · exact ⟨h1, .inr ⟨g, cap, cur, h3, h4, (hb.block g (Array.getElem?_eq_some_iff.1 h5).1).trans h5, h6⟩⟩
theorem OwnG.lower {e : TypeId} {w : World} {base base' : Nat} {v : Value} {xs : List α} (h : OwnG k enc e w base v xs) (hb : base' ≤ base) : OwnG k enc e w base' v xs :=
  ⟨h.1, h.2.imp id fun ⟨g, cap, cur, e1, h1, r⟩ => ⟨g, cap, cur, e1, Nat.le_trans hb h1, r⟩⟩
theorem OwnG.kept {w w' : World} {base : Nat} {v : Value} {xs : List α} {e : TypeId} {row : Option Nat} (h : OwnG k enc e w base v xs) (hg : w.grownBy w' row) (hr : v.ownBlock = none ∨ v.ownBlock ≠ row) : OwnG k enc e w' base v xs := World.ownsRow.kept h hg hr
theorem OwnG.nil (e : TypeId) (w : World) (base : Nat) : OwnG k enc e w base (.slice none 0 0) ([] : List α) := World.ownsRow_nil _ _ _ _
theorem OwnG.shape {e : TypeId} {w : World} {base : Nat} {v : Value} {xs : List α} (h : OwnG k enc e w base v xs) : ∃ a c, v = .slice a xs.length c := by
  obtain ⟨h2, ⟨rfl, h0⟩ | ⟨g, cap, cur, rfl, h3⟩⟩ := h
  · rw [h0]; exact ⟨none, 0, rfl⟩
  · exact ⟨_, _, rfl⟩
theorem OwnG.fs {e : TypeId} {w : World} {base : Nat} {a : Option Addr} {n c : Nat} {xs : List α} (hk : ∀ x, (enc x).length = k) (h : OwnG k enc e w base (.slice a n c) xs) : RowAt k enc w a xs ∧ xs.length = n := by
  obtain ⟨a', c', h1, h2, -⟩ := h.at hk
  simp only [Value.slice.injEq] at h1
  obtain ⟨rfl, rfl, rfl⟩ := h1
  exact ⟨h2, rfl⟩
theorem own_off {w w' : World} {base : Nat} {v : Value} {xs : List α} {e : TypeId} (h : OwnG k enc e w base v xs) (hb : base ≤ w.heap.size) (hg : w.grownBy w' v.ownBlock) : Below base w w' :=
  (Below.refl _ _).grown hg hb fun g hk => (h.lt hk).1
theorem flat_cells (hk : ∀ x, (enc x).length = k) (hk0 : 0 < k) {w : World} {b off : Nat} {ys : List α} (h : ∀ (j : Nat) x, ys[j]? = some x → w.rangeAt b (off + j * k) (enc x)) :
    ∀ (j : Nat) u, (ys.flatMap enc)[j]? = some u → w.cell? ((⟨b, off, none⟩ : Addr).add j) = some u := fun j u hu => by
  have hj := (List.getElem?_eq_some_iff.1 hu).1
  rw [flat_len hk] at hj
  have hq : j / k < ys.length := (Nat.div_lt_iff_lt_mul hk0).2 hj
  have hy := List.getElem?_eq_getElem hq
  have hdm : j / k * k + j % k = j := by rw [Nat.mul_comm]; exact Nat.div_add_mod j k
  have hg := flat_get hk ys (j / k) (j % k) _ hy (Nat.mod_lt _ hk0)
  rw [hdm, hu] at hg
  have := h (j / k) _ hy (j % k) u hg.symm
  rw [Addr.add_mid, show off + j = off + j / k * k + j % k by omega]
  exact this
/-- A slice type over an element's type of k cells. -/
def Elem (SL e : TypeId) (k by' : Nat) : Prop := Tryz.prog.underlying SL = some (.slice e) ∧ ∃ i z, Tryz.prog.info? e = some i ∧ i.zero = some z ∧ i.size = k ∧ i.bytes = by' ∧ z.cells.size = k
theorem wp_append_G {SL e : TypeId} {by' : Nat} (hE : Elem SL e k by') (hk : ∀ x, (enc x).length = k) (hk0 : 0 < k) (hby : by' ≤ 64) (hone : ∀ x, ∀ u ∈ enc x, u.oneCell' = true) {w : World} {o : Oper} {ac : Act} {K : Act → World → Prop} {Q : Exit → Act → World → Prop} (s x : Operand)
    (ho : o.op = .call { callee := .builtin .append, args := #[s, x], argTypes := #[SL, SL] })
    (base : Nat) (v : Value) (xs : List α) (n : Nat) (hn : xs.length = n) (hs : ac.eval s = v) (hown : OwnG k enc e w base v xs) (g0 off m c : Nat) (ys : List α) (hm : ys.length = m) (hm0 : 0 < m)
    (hx : ac.eval x = .slice (some ⟨g0, off, none⟩) m c) (hy : ∀ (j : Nat) y, ys[j]? = some y → w.rangeAt g0 (off + j * k) (enc y)) (n2 : Nat) (zs : List α) (hn2 : n + m = n2) (hzs : xs ++ ys = zs)
    (hsum : n2 ≤ 1000001) (hbase : base ≤ w.heap.size)
    (h : ∀ g c w', OwnG k enc e w' base (.slice (some ⟨g, 0, none⟩) n2 c) zs → w.grownBy w' v.ownBlock → (v.ownBlock = some g ∨ g = w.heap.size) → g < w'.heap.size → K (ac.put o.dst (.slice (some ⟨g, 0, none⟩) n2 c)) w') :
    Oper.wp Tryz.prog o ac w K Q := by
  obtain ⟨hu, i, z, hi, hz, h1, h8, hzs'⟩ := hE
  subst hn hn2 hzs
  have hmul : (xs.length + m) * by' ≤ 1000001 * 64 := Nat.mul_le_mul hsum hby
  refine wp_append_lies w s x SL ho base e i z k by' hu hi hz h1 h8 hzs' hk0 v xs.length _ hs hown ⟨g0, off, none⟩ m c (ys.flatMap enc) hx (by rw [flat_len hk, hm]) (flat_cells hk hk0 hy) (fun u hu => by
    obtain ⟨y, -, hy⟩ := List.mem_flatMap.1 hu
    exact hone y u hy) hm0 (by unfold maxLen; omega) (by omega) hbase _ rfl fun g c w' a1 a2 a3 a4 => ?_
  refine h g c w' ?_ a2 a3 a4
  unfold OwnG
  rw [List.flatMap_append, List.length_append, hm]; exact a1
end
theorem wpList_append_G {α : Type} {k : Nat} {enc : α → List Value} {SL e : TypeId} {by' : Nat} (hE : Elem SL e k by') (hk : ∀ x, (enc x).length = k) (hk0 : 0 < k) (hby : by' ≤ 64) (hone : ∀ x, ∀ u ∈ enc x, u.oneCell' = true) {w : World} {ops : Array Oper} {rest : List Oper} {o : Oper} {ac : Act} {Q : Exit → Act → World → Prop} (hgd : o.guard = none) (s x : Operand)
    (ho : o.op = .call { callee := .builtin .append, args := #[s, x], argTypes := #[SL, SL] })
    (base : Nat) (v : Value) (xs : List α) (n : Nat) (hn : xs.length = n) (hs : ac.eval s = v) (hown : OwnG k enc e w base v xs) (g0 off m c : Nat) (ys : List α) (hm : ys.length = m) (hm0 : 0 < m)
    (hx : ac.eval x = .slice (some ⟨g0, off, none⟩) m c) (hy : ∀ (j : Nat) y, ys[j]? = some y → w.rangeAt g0 (off + j * k) (enc y)) (n2 : Nat) (zs : List α) (hn2 : n + m = n2) (hzs : xs ++ ys = zs)
    (hsum : n2 ≤ 1000001) (hbase : base ≤ w.heap.size)
    (h : ∀ g c w', OwnG k enc e w' base (.slice (some ⟨g, 0, none⟩) n2 c) zs → w.grownBy w' v.ownBlock → (v.ownBlock = some g ∨ g = w.heap.size) → g < w'.heap.size → wpList Tryz.prog ops Q rest (ac.put o.dst (.slice (some ⟨g, 0, none⟩) n2 c)) w') :
    wpList Tryz.prog ops Q (o :: rest) ac w :=
  wpList_plain hgd fun _ hK => wp_append_G hE hk hk0 hby hone s x ho base v xs n hn hs hown g0 off m c ys hm hm0 hx hy n2 zs hn2 hzs hsum hbase fun g c w' h2 h3 h4 h5 => hK _ _ (h g c w' h2 h3 h4 h5)
theorem step_append_G {α : Type} {k : Nat} {enc : α → List Value} {SL e : TypeId} {by' : Nat} (hE : Elem SL e k by') (hk : ∀ x, (enc x).length = k) (hk0 : 0 < k) (hby : by' ≤ 64) (hone : ∀ x, ∀ u ∈ enc x, u.oneCell' = true) {w : World} {ops : Array Oper} {o : Oper} {ac : Act} {K : Act → World → Prop} {Q : Exit → Act → World → Prop} {E : Prop} (hw : Region.wanted o (yielded ops ac.tmps) = true) (s x : Operand)
    (ho : o.op = .call { callee := .builtin .append, args := #[s, x], argTypes := #[SL, SL] })
    (base : Nat) (v : Value) (xs : List α) (n : Nat) (hn : xs.length = n) (hs : ac.eval s = v) (hown : OwnG k enc e w base v xs) (g0 off m c : Nat) (ys : List α) (hm : ys.length = m) (hm0 : 0 < m)
    (hx : ac.eval x = .slice (some ⟨g0, off, none⟩) m c) (hy : ∀ (j : Nat) y, ys[j]? = some y → w.rangeAt g0 (off + j * k) (enc y)) (n2 : Nat) (zs : List α) (hn2 : n + m = n2) (hzs : xs ++ ys = zs)
    (hsum : n2 ≤ 1000001) (hbase : base ≤ w.heap.size)
    (h : ∀ g c w', OwnG k enc e w' base (.slice (some ⟨g, 0, none⟩) n2 c) zs → w.grownBy w' v.ownBlock → (v.ownBlock = some g ∨ g = w.heap.size) → g < w'.heap.size → K (ac.put o.dst (.slice (some ⟨g, 0, none⟩) n2 c)) w') :
    if Region.wanted o (yielded ops ac.tmps) = true then Oper.wp Tryz.prog o ac w K Q else E := by
  rw [if_pos hw]
  exact wp_append_G hE hk hk0 hby hone s x ho base v xs n hn hs hown g0 off m c ys hm hm0 hx hy n2 zs hn2 hzs hsum hbase h
/-! ### Texts -/
def strE (s : ByteArray) : List Value := [.string s]
def extE (x : ByteArray × ByteArray) : List Value := [.string x.1, .string x.2]
theorem strE_len (s : ByteArray) : (strE s).length = 1 := rfl
theorem extE_len (x : ByteArray × ByteArray) : (extE x).length = 2 := rfl
theorem strE_one (s : ByteArray) : ∀ u ∈ strE s, u.oneCell' = true := fun u hu => by
  rw [List.mem_singleton.1 hu]; rfl
theorem extE_one (x : ByteArray × ByteArray) : ∀ u ∈ extE x, u.oneCell' = true := fun u hu => by
  simp [extE] at hu
  rcases hu with rfl | rfl <;> rfl
theorem elem_of {SL e : TypeId} {k by' : Nat} {z : Value} (hu : Tryz.prog.underlying SL = some (.slice e)) (h : (Tryz.prog.info? e).map (fun i => (i.zero, i.size, i.bytes)) = some (some z, k, by')) (hz : z.cells.size = k) : Elem SL e k by' := by
  obtain ⟨i, hi, he⟩ := Option.map_eq_some_iff.1 h
  simp only [Prod.mk.injEq] at he
  exact ⟨hu, i, z, hi, he.1, he.2.1, he.2.2, hz⟩
theorem elem_str : Elem 98 9 1 16 := elem_of (z := .string ⟨#[]⟩) Tryz.underlying98 (by kernel_rfl) rfl
end Go.Proofs.YtindmggmblmmcaaGreatDoor
