/- Changes, plainly: which are right, their text, what a text tells. -/
import Derived.Test.YtkpiinjhcckhfaaGreatDoorChNum
import Derived.OpenShut
import Derived.Deep.AppendLies
import Derived.Deep.MidRow
import Derived.Deep.RegionHeld3
import Derived.Great.BuildSlice
import Derived.ChangeArms
import Derived.ChangeSlices
import Derived.ChangeAt
import Derived.ChangeSame
import Derived.Deep.Strs
import Derived.Test.YtkpiinjhcckhfaaGreatDoorRight
/-! Changes, plainly: which are right, their text, what a text tells. -/
namespace Go.Proofs.YtkpiinjhcckhfaaGreatDoor
open Go.RowKit Plain
set_option linter.unusedVariables false
structure CX where
  n : List Int
  u : ByteArray
  t : Int
  z : Int
  xs : List (ByteArray × ByteArray)
  fs : List ByteArray
  d : ByteArray
def keyByte (c : UInt8) : Bool := (decide (97 ≤ c.toNat) && decide (c.toNat ≤ 122)) || (decide (65 ≤ c.toNat) && decide (c.toNat ≤ 90)) || (decide (48 ≤ c.toNat) && decide (c.toNat ≤ 57)) || c.toNat == 45 || c.toNat == 95
def keyB (l : List UInt8) : Bool := !l.isEmpty && decide (l.length ≤ 100) && l.all keyByte
section
variable {α : Type}
/-- The i-th one is one, and stands behind the one ahead. -/
def atG (ok : α → Bool) (key : α → ByteArray) (xs : List α) (i : Nat) (x : α) : Bool := ok x && (match i with | 0 => true | j + 1 => match xs[j]? with | some y => Op.bytesLess (key y).toList (key x).toList | none => true)
def allG (ok : α → Bool) (key : α → ByteArray) (xs : List α) : Bool := (List.range xs.length).all fun i => match xs[i]? with | some x => atG ok key xs i x | none => true
theorem allG_iff {ok : α → Bool} {key : α → ByteArray} {xs : List α} : allG ok key xs = true ↔ ∀ i x, xs[i]? = some x → atG ok key xs i x = true := by
  unfold allG
  rw [List.all_eq_true]
  constructor
  · intro h i x hx
    have := h i (List.mem_range.2 (List.getElem?_eq_some_iff.1 hx).1)
    rw [hx] at this
    exact this
  · intro h i hi
    cases hx : xs[i]? with
    | none => rfl
    | some x => exact h i x hx
theorem allG_bad {ok : α → Bool} {key : α → ByteArray} {xs : List α} {i : Nat} {x : α} (h : xs[i]? = some x) (ho : atG ok key xs i x = false) : allG ok key xs = false := by
  rw [Bool.eq_false_iff]
  intro hr
  have := allG_iff.1 hr i x h
  rw [ho] at this
  cases this
theorem allG_all {ok : α → Bool} {key : α → ByteArray} {xs : List α} (h : ∀ i x, i < xs.length → xs[i]? = some x → atG ok key xs i x = true) : allG ok key xs = true := allG_iff.2 fun i x hx => h i x (List.getElem?_eq_some_iff.1 hx).1 hx
theorem atG_no {ok : α → Bool} {key : α → ByteArray} {xs : List α} {i : Nat} {x : α} (h : ok x = false) : atG ok key xs i x = false := by unfold atG; rw [h]; rfl
theorem atG_zero {ok : α → Bool} {key : α → ByteArray} {xs : List α} {x : α} (h : ok x = true) : atG ok key xs 0 x = true := by unfold atG; rw [h]; rfl
theorem atG_succ {ok : α → Bool} {key : α → ByteArray} {xs : List α} {j : Nat} {x y : α} (h : ok x = true) (hy : xs[j]? = some y) : atG ok key xs (j + 1) x = Op.bytesLess (key y).toList (key x).toList := by
  unfold atG
  rw [h]
  simp only [hy, Bool.true_and]
theorem allG_each {ok : α → Bool} {key : α → ByteArray} {xs : List α} (h : allG ok key xs = true) : ∀ x ∈ xs, ok x = true := fun x hx => by
  obtain ⟨i, hi⟩ := List.mem_iff_getElem?.1 hx
  have := allG_iff.1 h i x hi
  unfold atG at this
  simp only [Bool.and_eq_true] at this
  exact this.1
end
def extOk (x : ByteArray × ByteArray) : Bool := keyB x.1.data.toList
def pathOk (p : ByteArray) : Bool := rightL p.data.toList
def headOk (c : CX) : Bool := !c.u.data.toList.isEmpty && !(c.u.data.toList.contains 10) && decide (0 ≤ c.t) && decide (c.t ≤ 4611686018427387903) && decide (-86399 ≤ c.z) && decide (c.z ≤ 86399)
def rightC (c : CX) : Bool := headOk c && allG extOk (·.1) c.xs && allG pathOk (fun p => p) c.fs
/-! ### As text -/
def esc (b : UInt8) : List UInt8 := if b = 92 then [92, 92] else if b = 10 then [92, 110] else if b = 13 then [92, 114] else if b = 0 then [92, 48] else [b]
def valueL (l : List UInt8) : List UInt8 := l.flatMap esc
def extL (x : ByteArray × ByteArray) : List UInt8 := x.1.data.toList ++ 58 :: valueL x.2.data.toList
def exsL (xs : List (ByteArray × ByteArray)) : List UInt8 := Lib.join (xs.map extL) [0]
def dateL (c : CX) : List UInt8 := Lib.itoa c.t ++ 32 :: (Lib.itoa c.z ++ (if c.xs = [] then [] else 32 :: exsL c.xs))
def linesL (c : CX) : List (List UInt8) := [hexOf c.n, c.u.data.toList, dateL c] ++ c.fs.map (·.data.toList) ++ [[], c.d.data.toList]
def printL (c : CX) : List UInt8 := Lib.join (linesL c) [10]
/-! ### What a text tells -/
/-! ### There and back -/
theorem join_cons2 (x y : List UInt8) (r : List (List UInt8)) (c : UInt8) : Lib.join (x :: y :: r) [c] = x ++ c :: Lib.join (y :: r) [c] := by
  rw [Lib.join_cons, Lib.join_cons]
  simp [Lib.joinTail]
theorem dec_bytes (u : Nat) : ∀ c ∈ Lib.decDigits u, 48 ≤ c.toNat ∧ c.toNat ≤ 57 := dec_digit u u (Nat.le_refl _)
theorem itoa_no (z : Int) (c : UInt8) (h : c.toNat < 45) : c ∉ Lib.itoa z := fun hm => by
  unfold Lib.itoa at hm
  split at hm
  · rcases List.mem_cons.1 hm with hm | hm
    · subst hm; exact absurd h (by decide)
    · have := dec_bytes _ c hm; omega
  · have := dec_bytes _ c hm; omega
theorem right_parts {c : CX} (h : rightC c = true) : headOk c = true ∧ (∀ x ∈ c.xs, extOk x = true) ∧ (∀ p ∈ c.fs, rightL p.data.toList = true) := by
  unfold rightC at h
  simp only [Bool.and_eq_true] at h
  exact ⟨h.1.1, allG_each h.1.2, allG_each h.2⟩
theorem head_parts {c : CX} (h : headOk c = true) : c.u.data.toList ≠ [] ∧ (10 : UInt8) ∉ c.u.data.toList ∧ 0 ≤ c.t ∧ c.t ≤ 4611686018427387903 ∧ -86399 ≤ c.z ∧ c.z ≤ 86399 := by
  unfold headOk at h
  simp only [Bool.and_eq_true, decide_eq_true_eq, Bool.not_eq_true'] at h
  obtain ⟨⟨⟨⟨⟨h1, h2⟩, h3⟩, h4⟩, h5⟩, h6⟩ := h
  refine ⟨fun e => ?_, fun hm => ?_, h3, h4, h5, h6⟩
  · rw [e] at h1; cases h1
  · rw [List.contains_iff_mem.2 hm] at h2; cases h2
theorem printL_eq (c : CX) : printL c = hexOf c.n ++ 10 :: (c.u.data.toList ++ 10 :: (dateL c ++ 10 :: Lib.join (c.fs.map (·.data.toList) ++ [[], c.d.data.toList]) [10])) := by
  unfold printL linesL
  obtain ⟨y, r, hy⟩ : ∃ y r, c.fs.map (·.data.toList) ++ [[], c.d.data.toList] = y :: r := by
    cases c.fs with
    | nil => exact ⟨_, _, rfl⟩
    | cons q fs => exact ⟨_, _, rfl⟩
  rw [List.append_assoc, hy]
  show Lib.join (hexOf c.n :: c.u.data.toList :: dateL c :: y :: r) [10] = _
  rw [join_cons2, join_cons2, join_cons2]
end Go.Proofs.YtkpiinjhcckhfaaGreatDoor
/-! Rows of records of k cells, whatever is told in them; a change as a struct. -/
namespace Go.Proofs.YtkpiinjhcckhfaaGreatDoor
open Go.RowKit Plain Go.ChangeShapes Go.WideShapes Go.ChangeAt Go.Great
set_option linter.unusedVariables false
section
variable {α : Type} {k : Nat} {enc : α → List Value}
theorem range_below {w w' : World} {b o n : Nat} {cs : List Value} (h : w.rangeAt b o cs) (hb : Below n w w') (hn : b < n) : w'.rangeAt b o cs := fun j v hj => (hb.cell (p := ⟨b, o + j, none⟩) hn).trans (h j v hj)
/-- They lie in a row. -/
def RowAt (k : Nat) (enc : α → List Value) (w : World) (a : Option Addr) (xs : List α) : Prop := xs.length = 0 ∨ ∃ b off, a = some ⟨b, off, none⟩ ∧ b < w.heap.size ∧ ∀ (j : Nat) x, xs[j]? = some x → w.rangeAt b (off + j * k) (enc x)
theorem RowAt.below {w w' : World} {a : Option Addr} {xs : List α} (h : RowAt k enc w a xs) (hb : Below w.heap.size w w') : RowAt k enc w' a xs :=
  Or.imp id (fun ⟨b, off, e, hl, hc⟩ => ⟨b, off, e, Nat.lt_of_lt_of_le hl hb.size, fun j p hj => range_below (hc j p hj) hb hl⟩) h
theorem RowAt.at {w : World} {a : Option Addr} {xs : List α} (h : RowAt k enc w a xs) {j : Nat} (hj : j < xs.length) : ∃ b off x, a = some ⟨b, off, none⟩ ∧ xs[j]? = some x ∧ b < w.heap.size ∧ w.rangeAt b (off + j * k) (enc x) := by
  rcases h with h0 | ⟨b, off, rfl, hl, hc⟩
  · omega
  · have hg : xs[j]? = some (xs[j]'hj) := List.getElem?_eq_getElem hj
    exact ⟨b, off, _, rfl, hg, hl, hc j _ hg⟩
theorem RowAt.nil (w : World) (a : Option Addr) : RowAt k enc w a [] := .inl rfl
/-- They lie in a row of the call's own. -/
def OwnG (k : Nat) (enc : α → List Value) (e : TypeId) (w : World) (base : Nat) (v : Value) (xs : List α) : Prop := w.ownsRow base e k v xs.length (xs.flatMap enc)
theorem flat_len (hk : ∀ x, (enc x).length = k) : ∀ xs : List α, (xs.flatMap enc).length = xs.length * k
  | [] => by simp
  | x :: xs => by rw [List.flatMap_cons, List.length_append, hk, flat_len hk xs, List.length_cons, Nat.succ_mul]; omega
theorem flat_get (hk : ∀ x, (enc x).length = k) : ∀ (xs : List α) (j i : Nat) (x : α), xs[j]? = some x → i < k → (xs.flatMap enc)[j * k + i]? = (enc x)[i]?
  | [], j, i, x, h, _ => by simp at h
  | q :: xs, 0, i, x, h, hi => by
    simp at h
    subst h
    rw [List.flatMap_cons, Nat.zero_mul, Nat.zero_add, List.getElem?_append_left (by rw [hk]; exact hi)]
  | q :: xs, j + 1, i, x, h, hi => by
    rw [List.flatMap_cons, List.getElem?_append_right (by rw [hk, Nat.succ_mul]; omega), hk, show (j + 1) * k + i - k = j * k + i by rw [Nat.succ_mul]; omega]
    exact flat_get hk xs j i x (by simpa using h) hi
theorem OwnG.at {e : TypeId} {w : World} {base : Nat} {v : Value} {xs : List α} (hk : ∀ x, (enc x).length = k) (h : OwnG k enc e w base v xs) : ∃ a c, v = .slice a xs.length c ∧ RowAt k enc w a xs ∧ xs.length ≤ c ∧ (a = none → c = 0) := by
  have h1 := h
  obtain ⟨h2, ⟨rfl, h0⟩ | ⟨g, cap, cur, rfl, h3, h4, h5, h6, h7, h8⟩⟩ := h
  · rw [h0]; exact ⟨none, 0, rfl, .inl h0, by omega, fun _ => rfl⟩
  · refine ⟨some ⟨g, 0, none⟩, cap, rfl, .inr ⟨g, 0, rfl, (Array.getElem?_eq_some_iff.1 h4).1, fun j p hj i v hv => ?_⟩, h5, fun e => by cases e⟩
    have hjl : j < xs.length := (List.getElem?_eq_some_iff.1 hj).1
    have hi : i < k := by
      have := (List.getElem?_eq_some_iff.1 hv).1
      rw [hk] at this; exact this
    have hlt : j * k + i < xs.length * k := by
      have := Nat.mul_le_mul_right k (show j + 1 ≤ xs.length by omega)
      rw [Nat.succ_mul] at this; omega
    rw [Nat.zero_add, World.ownsRow.cellAt h1 (j * k + i) hlt, flat_get hk xs j i p hj hi, hv]
theorem OwnG.lt {e : TypeId} {w : World} {base : Nat} {v : Value} {xs : List α} (h : OwnG k enc e w base v xs) {g : Nat} (hg : v.ownBlock = some g) : base ≤ g ∧ g < w.heap.size := World.ownsRow.lt h g hg
theorem OwnG.below {e : TypeId} {w w' : World} {base : Nat} {v : Value} {xs : List α} (h : OwnG k enc e w base v xs) (hb : Below w.heap.size w w') : OwnG k enc e w' base v xs := by
  obtain ⟨h1, h2 | ⟨g, cap, cur, h3, h4, h5, h6⟩⟩ := h
  · exact ⟨h1, .inl h2⟩
  · exact ⟨h1, .inr ⟨g, cap, cur, h3, h4, (hb.block g (Array.getElem?_eq_some_iff.1 h5).1).trans h5, h6⟩⟩
theorem OwnG.lower {e : TypeId} {w : World} {base base' : Nat} {v : Value} {xs : List α} (h : OwnG k enc e w base v xs) (hb : base' ≤ base) : OwnG k enc e w base' v xs :=
  ⟨h.1, h.2.imp id fun ⟨g, cap, cur, e1, h1, r⟩ => ⟨g, cap, cur, e1, Nat.le_trans hb h1, r⟩⟩
theorem OwnG.kept {w w' : World} {base : Nat} {v : Value} {xs : List α} {e : TypeId} {row : Option Nat} (h : OwnG k enc e w base v xs) (hg : w.grownBy w' row) (hr : v.ownBlock = none ∨ v.ownBlock ≠ row) : OwnG k enc e w' base v xs := World.ownsRow.kept h hg hr
theorem OwnG.nil (e : TypeId) (w : World) (base : Nat) : OwnG k enc e w base (.slice none 0 0) ([] : List α) := World.ownsRow_nil _ _ _ _
theorem OwnG.shape {e : TypeId} {w : World} {base : Nat} {v : Value} {xs : List α} (h : OwnG k enc e w base v xs) : ∃ a c, v = .slice a xs.length c := by
  obtain ⟨h2, ⟨rfl, h0⟩ | ⟨g, cap, cur, rfl, h3⟩⟩ := h
  · rw [h0]; exact ⟨none, 0, rfl⟩
  · exact ⟨_, _, rfl⟩
theorem OwnG.fs {e : TypeId} {w : World} {base : Nat} {a : Option Addr} {n c : Nat} {xs : List α} (hk : ∀ x, (enc x).length = k) (h : OwnG k enc e w base (.slice a n c) xs) : RowAt k enc w a xs ∧ xs.length = n := by
  obtain ⟨a', c', h1, h2, -⟩ := h.at hk
  simp only [Value.slice.injEq] at h1
  obtain ⟨rfl, rfl, rfl⟩ := h1
  exact ⟨h2, rfl⟩
theorem own_off {w w' : World} {base : Nat} {v : Value} {xs : List α} {e : TypeId} (h : OwnG k enc e w base v xs) (hb : base ≤ w.heap.size) (hg : w.grownBy w' v.ownBlock) : Below base w w' :=
  (Below.refl _ _).grown hg hb fun g hk => (h.lt hk).1
theorem flat_cells (hk : ∀ x, (enc x).length = k) (hk0 : 0 < k) {w : World} {b off : Nat} {ys : List α} (h : ∀ (j : Nat) x, ys[j]? = some x → w.rangeAt b (off + j * k) (enc x)) :
    ∀ (j : Nat) u, (ys.flatMap enc)[j]? = some u → w.cell? ((⟨b, off, none⟩ : Addr).add j) = some u := fun j u hu => by
  have hj := (List.getElem?_eq_some_iff.1 hu).1
  rw [flat_len hk] at hj
  have hq : j / k < ys.length := (Nat.div_lt_iff_lt_mul hk0).2 hj
  have hy := List.getElem?_eq_getElem hq
  have hdm : j / k * k + j % k = j := by rw [Nat.mul_comm]; exact Nat.div_add_mod j k
  have hg := flat_get hk ys (j / k) (j % k) _ hy (Nat.mod_lt _ hk0)
  rw [hdm, hu] at hg
  have := h (j / k) _ hy (j % k) u hg.symm
  rw [Addr.add_mid, show off + j = off + j / k * k + j % k by omega]
  exact this
/-- A slice type over an element's type of k cells. -/
def Elem (SL e : TypeId) (k by' : Nat) : Prop := Tryz.prog.underlying SL = some (.slice e) ∧ ∃ i z, Tryz.prog.info? e = some i ∧ i.zero = some z ∧ i.size = k ∧ i.bytes = by' ∧ z.cells.size = k
theorem wp_append_G {SL e : TypeId} {by' : Nat} (hE : Elem SL e k by') (hk : ∀ x, (enc x).length = k) (hk0 : 0 < k) (hby : by' ≤ 64) (hone : ∀ x, ∀ u ∈ enc x, u.oneCell' = true) {w : World} {o : Oper} {ac : Act} {K : Act → World → Prop} {Q : Exit → Act → World → Prop} (s x : Operand)
    (ho : o.op = .call { callee := .builtin .append, args := #[s, x], argTypes := #[SL, SL] })
    (base : Nat) (v : Value) (xs : List α) (n : Nat) (hn : xs.length = n) (hs : ac.eval s = v) (hown : OwnG k enc e w base v xs) (g0 off m c : Nat) (ys : List α) (hm : ys.length = m) (hm0 : 0 < m)
    (hx : ac.eval x = .slice (some ⟨g0, off, none⟩) m c) (hy : ∀ (j : Nat) y, ys[j]? = some y → w.rangeAt g0 (off + j * k) (enc y)) (n2 : Nat) (zs : List α) (hn2 : n + m = n2) (hzs : xs ++ ys = zs)
    (hsum : n2 ≤ 1000001) (hbase : base ≤ w.heap.size)
    (h : ∀ g c w', OwnG k enc e w' base (.slice (some ⟨g, 0, none⟩) n2 c) zs → w.grownBy w' v.ownBlock → (v.ownBlock = some g ∨ g = w.heap.size) → g < w'.heap.size → K (ac.put o.dst (.slice (some ⟨g, 0, none⟩) n2 c)) w') :
    Oper.wp Tryz.prog o ac w K Q := by
  obtain ⟨hu, i, z, hi, hz, h1, h8, hzs'⟩ := hE
  subst hn hn2 hzs
  have hmul : (xs.length + m) * by' ≤ 1000001 * 64 := Nat.mul_le_mul hsum hby
  refine wp_append_lies w s x SL ho base e i z k by' hu hi hz h1 h8 hzs' hk0 v xs.length _ hs hown ⟨g0, off, none⟩ m c (ys.flatMap enc) hx (by rw [flat_len hk, hm]) (flat_cells hk hk0 hy) (fun u hu => by
    obtain ⟨y, -, hy⟩ := List.mem_flatMap.1 hu
    exact hone y u hy) hm0 (by unfold maxLen; omega) (by omega) hbase _ rfl fun g c w' a1 a2 a3 a4 => ?_
  refine h g c w' ?_ a2 a3 a4
  unfold OwnG
  rw [List.flatMap_append, List.length_append, hm]; exact a1
end
theorem wpList_append_G {α : Type} {k : Nat} {enc : α → List Value} {SL e : TypeId} {by' : Nat} (hE : Elem SL e k by') (hk : ∀ x, (enc x).length = k) (hk0 : 0 < k) (hby : by' ≤ 64) (hone : ∀ x, ∀ u ∈ enc x, u.oneCell' = true) {w : World} {ops : Array Oper} {rest : List Oper} {o : Oper} {ac : Act} {Q : Exit → Act → World → Prop} (hgd : o.guard = none) (s x : Operand)
    (ho : o.op = .call { callee := .builtin .append, args := #[s, x], argTypes := #[SL, SL] })
    (base : Nat) (v : Value) (xs : List α) (n : Nat) (hn : xs.length = n) (hs : ac.eval s = v) (hown : OwnG k enc e w base v xs) (g0 off m c : Nat) (ys : List α) (hm : ys.length = m) (hm0 : 0 < m)
    (hx : ac.eval x = .slice (some ⟨g0, off, none⟩) m c) (hy : ∀ (j : Nat) y, ys[j]? = some y → w.rangeAt g0 (off + j * k) (enc y)) (n2 : Nat) (zs : List α) (hn2 : n + m = n2) (hzs : xs ++ ys = zs)
    (hsum : n2 ≤ 1000001) (hbase : base ≤ w.heap.size)
    (h : ∀ g c w', OwnG k enc e w' base (.slice (some ⟨g, 0, none⟩) n2 c) zs → w.grownBy w' v.ownBlock → (v.ownBlock = some g ∨ g = w.heap.size) → g < w'.heap.size → wpList Tryz.prog ops Q rest (ac.put o.dst (.slice (some ⟨g, 0, none⟩) n2 c)) w') :
    wpList Tryz.prog ops Q (o :: rest) ac w :=
  wpList_plain hgd fun _ hK => wp_append_G hE hk hk0 hby hone s x ho base v xs n hn hs hown g0 off m c ys hm hm0 hx hy n2 zs hn2 hzs hsum hbase fun g c w' h2 h3 h4 h5 => hK _ _ (h g c w' h2 h3 h4 h5)
theorem step_append_G {α : Type} {k : Nat} {enc : α → List Value} {SL e : TypeId} {by' : Nat} (hE : Elem SL e k by') (hk : ∀ x, (enc x).length = k) (hk0 : 0 < k) (hby : by' ≤ 64) (hone : ∀ x, ∀ u ∈ enc x, u.oneCell' = true) {w : World} {ops : Array Oper} {o : Oper} {ac : Act} {K : Act → World → Prop} {Q : Exit → Act → World → Prop} {E : Prop} (hw : Region.wanted o (yielded ops ac.tmps) = true) (s x : Operand)
    (ho : o.op = .call { callee := .builtin .append, args := #[s, x], argTypes := #[SL, SL] })
    (base : Nat) (v : Value) (xs : List α) (n : Nat) (hn : xs.length = n) (hs : ac.eval s = v) (hown : OwnG k enc e w base v xs) (g0 off m c : Nat) (ys : List α) (hm : ys.length = m) (hm0 : 0 < m)
    (hx : ac.eval x = .slice (some ⟨g0, off, none⟩) m c) (hy : ∀ (j : Nat) y, ys[j]? = some y → w.rangeAt g0 (off + j * k) (enc y)) (n2 : Nat) (zs : List α) (hn2 : n + m = n2) (hzs : xs ++ ys = zs)
    (hsum : n2 ≤ 1000001) (hbase : base ≤ w.heap.size)
    (h : ∀ g c w', OwnG k enc e w' base (.slice (some ⟨g, 0, none⟩) n2 c) zs → w.grownBy w' v.ownBlock → (v.ownBlock = some g ∨ g = w.heap.size) → g < w'.heap.size → K (ac.put o.dst (.slice (some ⟨g, 0, none⟩) n2 c)) w') :
    if Region.wanted o (yielded ops ac.tmps) = true then Oper.wp Tryz.prog o ac w K Q else E := by
  rw [if_pos hw]
  exact wp_append_G hE hk hk0 hby hone s x ho base v xs n hn hs hown g0 off m c ys hm hm0 hx hy n2 zs hn2 hzs hsum hbase h
/-! ### Texts, extras, changes -/
def strE (s : ByteArray) : List Value := [.string s]
def extE (x : ByteArray × ByteArray) : List Value := [.string x.1, .string x.2]
theorem strE_len (s : ByteArray) : (strE s).length = 1 := rfl
theorem extE_len (x : ByteArray × ByteArray) : (extE x).length = 2 := rfl
theorem strE_one (s : ByteArray) : ∀ u ∈ strE s, u.oneCell' = true := fun u hu => by
  rw [List.mem_singleton.1 hu]; rfl
theorem extE_one (x : ByteArray × ByteArray) : ∀ u ∈ extE x, u.oneCell' = true := fun u hu => by
  simp [extE] at hu
  rcases hu with rfl | rfl <;> rfl
theorem elem_of {SL e : TypeId} {k by' : Nat} {z : Value} (hu : Tryz.prog.underlying SL = some (.slice e)) (h : (Tryz.prog.info? e).map (fun i => (i.zero, i.size, i.bytes)) = some (some z, k, by')) (hz : z.cells.size = k) : Elem SL e k by' := by
  obtain ⟨i, hi, he⟩ := Option.map_eq_some_iff.1 h
  simp only [Prod.mk.injEq] at he
  exact ⟨hu, i, z, hi, he.1, he.2.1, he.2.2, hz⟩
theorem elem_str : Elem 38 9 1 16 := elem_of (z := .string ⟨#[]⟩) Tryz.underlying38 (by kernel_rfl) rfl
theorem elem_ext : Elem 37 79 2 32 := elem_of (z := .agg #[.string ⟨#[]⟩, .string ⟨#[]⟩]) Tryz.underlying37 (by kernel_rfl) rfl
theorem elem_rext : Elem 47 63 2 32 := elem_of (z := .agg #[.string ⟨#[]⟩, .string ⟨#[]⟩]) Tryz.underlying47 (by kernel_rfl) rfl
/-- A change's cells. -/
def chL (c : CX) (xv fv : Value) : List Value := U8 c.n ++ [.string c.u, .int .i64 c.t, .int .i64 c.z, xv, fv, .string c.d]
def chA (c : CX) (xv fv : Value) : Array Value := (chL c xv fv).toArray
theorem chL_len (c : CX) (xv fv : Value) (h : c.n.length = 20) : (chL c xv fv).length = 26 := by unfold chL; rw [List.length_append, U8_length, h]; rfl
theorem chA_size (c : CX) (xv fv : Value) (h : c.n.length = 20) : (chA c xv fv).size = 26 := by unfold chA; rw [List.size_toArray, chL_len c xv fv h]
theorem chL_at {c : CX} {xv fv : Value} (h : c.n.length = 20) (i : Nat) : (chL c xv fv)[20 + i]? = ([.string c.u, .int .i64 c.t, .int .i64 c.z, xv, fv, .string c.d] : List Value)[i]? := by
  unfold chL
  rw [List.getElem?_append_right (by rw [U8_length, h]; omega), U8_length, h, show 20 + i - 20 = i by omega]
structure ChRow (w : World) (b : Nat) (c : CX) (xv fv : Value) : Prop where
  n20 : c.n.length = 20
  cells : w.rangeAt b 0 (chL c xv fv)
theorem ChRow.cell {w : World} {b : Nat} {c : CX} {xv fv : Value} (h : ChRow w b c xv fv) (i : Nat) {v : Value} (hv : ([.string c.u, .int .i64 c.t, .int .i64 c.z, xv, fv, .string c.d] : List Value)[i]? = some v) : w.cell? ⟨b, 20 + i, none⟩ = some v := by
  have := h.cells (20 + i) v (by rw [chL_at h.n20]; exact hv)
  rwa [Nat.zero_add] at this
theorem ChRow.user {w : World} {b : Nat} {c : CX} {xv fv : Value} (h : ChRow w b c xv fv) : w.cell? ⟨b, 20, none⟩ = some (.string c.u) := h.cell 0 rfl
theorem ChRow.time {w : World} {b : Nat} {c : CX} {xv fv : Value} (h : ChRow w b c xv fv) : w.cell? ⟨b, 21, none⟩ = some (.int .i64 c.t) := h.cell 1 rfl
theorem ChRow.zone {w : World} {b : Nat} {c : CX} {xv fv : Value} (h : ChRow w b c xv fv) : w.cell? ⟨b, 22, none⟩ = some (.int .i64 c.z) := h.cell 2 rfl
theorem ChRow.exts {w : World} {b : Nat} {c : CX} {xv fv : Value} (h : ChRow w b c xv fv) : w.cell? ⟨b, 23, none⟩ = some xv := h.cell 3 rfl
theorem ChRow.files {w : World} {b : Nat} {c : CX} {xv fv : Value} (h : ChRow w b c xv fv) : w.cell? ⟨b, 24, none⟩ = some fv := h.cell 4 rfl
theorem ChRow.desc {w : World} {b : Nat} {c : CX} {xv fv : Value} (h : ChRow w b c xv fv) : w.cell? ⟨b, 25, none⟩ = some (.string c.d) := h.cell 5 rfl
theorem ChRow.id {w : World} {b : Nat} {c : CX} {xv fv : Value} (h : ChRow w b c xv fv) : w.rangeAt b 0 (U8 c.n) := fun j v hj => h.cells j v (by
  unfold chL
  rw [List.getElem?_append_left (List.getElem?_eq_some_iff.1 hj).1, hj])
theorem ChRow.below {w w' : World} {b : Nat} {c : CX} {xv fv : Value} (h : ChRow w b c xv fv) (hl : b < w.heap.size) (hb : Below w.heap.size w w') : ChRow w' b c xv fv := ⟨h.n20, range_below h.cells hb hl⟩
theorem ChRow.of {w : World} {b : Nat} {c : CX} {xv fv : Value} {t : TypeId} {fr : Nat × Nat} (h : w.heap[b]? = some (.cells (chA c xv fv) t fr)) (h20 : c.n.length = 20) : ChRow w b c xv fv := ⟨h20, fun j v hv => by
  rw [cell_of_row _ _ _ _ _ _ h, Nat.zero_add, ← hv]
  simp [chA]⟩
theorem chL_one (c : CX) (xv fv : Value) (hx : xv.oneCell' = true) (hf : fv.oneCell' = true) : ∀ u ∈ chL c xv fv, u.oneCell' = true := fun u hu => by
  unfold chL at hu
  rcases List.mem_append.1 hu with hu | hu
  · exact U8_one _ u hu
  · simp at hu
    rcases hu with rfl | rfl | rfl | rfl | rfl | rfl <;> first | rfl | assumption
/-- Where a change's slices lie. -/
structure ChAt (w : World) (c : CX) (xa : Option Addr) (xc : Nat) (fa : Option Addr) (fc : Nat) : Prop where
  n20 : c.n.length = 20
  byt : ∀ x ∈ c.n, 0 ≤ x ∧ x ≤ 255
  exts : RowAt 2 extE w xa c.xs
  files : RowAt 1 strE w fa c.fs
  fnil : c.fs.length = 0 → fa = none ∧ fc = 0
theorem ChAt.below {w w' : World} {c : CX} {xa fa : Option Addr} {xc fc : Nat} (h : ChAt w c xa xc fa fc) (hb : Below w.heap.size w w') : ChAt w' c xa xc fa fc := ⟨h.n20, h.byt, h.exts.below hb, h.files.below hb, h.fnil⟩
def chV (c : CX) (xa : Option Addr) (xc : Nat) (fa : Option Addr) (fc : Nat) : Array Value := chA c (.slice xa c.xs.length xc) (.slice fa c.fs.length fc)
def ChSmall (c : CX) : Prop := c.u.size ≤ 100000 ∧ c.d.size ≤ 100000 ∧ c.xs.length ≤ 100000 ∧ c.fs.length ≤ 100000 ∧ (∀ x ∈ c.xs, x.1.size ≤ 100000 ∧ x.2.size ≤ 100000) ∧ (∀ p ∈ c.fs, p.size ≤ 100000) ∧ (-9223372036854775808 ≤ c.t ∧ c.t ≤ 9223372036854775807) ∧ (-9223372036854775808 ≤ c.z ∧ c.z ≤ 9223372036854775807)
theorem range_str {w : World} {b o : Nat} {s : ByteArray} (h : w.rangeAt b o (strE s)) : w.cell? ⟨b, o, none⟩ = some (.string s) := h 0 _ rfl
theorem range_key {w : World} {b o : Nat} {x : ByteArray × ByteArray} (h : w.rangeAt b o (extE x)) : w.cell? ⟨b, o, none⟩ = some (.string x.1) := h 0 _ rfl
theorem range_val {w : World} {b o : Nat} {x : ByteArray × ByteArray} (h : w.rangeAt b o (extE x)) : w.cell? ⟨b, o + 1, none⟩ = some (.string x.2) := h 1 _ rfl
theorem info_ch (c : CX) (xv fv : Value) (h : c.n.length = 20) : (Tryz.prog.info? 40).map (·.size) = some (chL c xv fv).length := by rw [chL_len c xv fv h]; kernel_rfl
theorem info_rch (c : CX) (xv fv : Value) (h : c.n.length = 20) : (Tryz.prog.info? 49).map (·.size) = some (chL c xv fv).length := by rw [chL_len c xv fv h]; kernel_rfl
end Go.Proofs.YtkpiinjhcckhfaaGreatDoor
/-! change.rightKey: the walk. -/
namespace Go.Proofs.YtkpiinjhcckhfaaGreatDoor
open Go.RowKit Plain
set_option linter.unusedVariables false
set_option linter.unusedSimpArgs false
theorem keyB_all {s : ByteArray} (h0 : ¬ s.size = 0) (h1 : ¬ 100 < s.size) : keyB s.data.toList = s.data.toList.all keyByte := by
  unfold keyB
  have e1 : s.data.toList.isEmpty = false := by
    cases h : s.data.toList with
    | nil => exact absurd (by rw [Lib.size_eq, h]; rfl) h0
    | cons a l => rfl
  rw [e1, decide_eq_true (by rw [← Lib.size_eq]; omega)]
  rfl
theorem keyB_none {s : ByteArray} (h0 : s.size = 0) : keyB s.data.toList = false := by
  have : s.data.toList = [] := List.eq_nil_of_length_eq_zero (by rw [← Lib.size_eq]; exact h0)
  rw [this]; rfl
theorem keyB_far {s : ByteArray} (h1 : 100 < s.size) : keyB s.data.toList = false := by
  unfold keyB
  rw [decide_eq_false (by rw [← Lib.size_eq]; omega)]
  simp
theorem all_not {l : List UInt8} {m : Nat} (h : m < l.length) (hc : keyByte (l[m]?.getD 0) = false) : l.all keyByte = false := by
  rw [List.getElem?_eq_getElem h] at hc
  rw [List.all_eq_false]
  exact ⟨_, List.getElem_mem h, by rw [show keyByte l[m] = false from hc]; decide⟩
theorem all_yes {l : List UInt8} (h : ∀ j, j < l.length → keyByte (l[j]?.getD 0) = true) : l.all keyByte = true := by
  rw [List.all_eq_true]
  intro c hc
  obtain ⟨j, hj⟩ := List.mem_iff_getElem?.1 hc
  have := h j (List.getElem?_eq_some_iff.1 hj).1
  rw [hj] at this
  exact this
def keyE (c : Nat) : Bool := (decide (97 ≤ c) && decide (c ≤ 122)) || (decide (65 ≤ c) && decide (c ≤ 90)) || (decide (48 ≤ c) && decide (c ≤ 57)) || c == 45 || c == 95
theorem keyE_iff {c : Nat} : keyE c = true ↔ ((((97 ≤ c ∧ c ≤ 122) ∨ (65 ≤ c ∧ c ≤ 90)) ∨ (48 ≤ c ∧ c ≤ 57)) ∨ c = 45) ∨ c = 95 := by
  unfold keyE
  simp only [Bool.or_eq_true, Bool.and_eq_true, decide_eq_true_eq, beq_iff_eq]
set_option maxRecDepth 100000 in
set_option maxHeartbeats 16000000 in
theorem rightKey_any (s : ByteArray) (w : World) (hs : s.size ≤ 100000) :
    Calls Tryz.prog 84 #[.string s] w fun e w' => e = .returned (.bool (keyB s.data.toList)) ∧ Below w.heap.size w w' := by
  have HSZ := Lib.hid (Lib.size_eq s)
  by_cases hn0 : s.size = 0
  · have HF := Lib.hid (keyB_none hn0)
    have hs0 : s = ⟨#[]⟩ := bytes_ext (List.eq_nil_of_length_eq_zero (by rw [← Lib.size_eq]; exact hn0))
    have H1 : Hid (∀ W, (binOp .eql 9 (.string s) (.string ⟨#[]⟩)).run Tryz.prog W = .ok (.bool true) W) := fun W => by rw [str_eql, hs0]; rfl
    clear hn0 hs0
    go_enter Tryz.func84, Tryz.ntmps84
    go_wp2_with (first
      | refine wpList_eql (by rfl) .eql 9 _ _ _ rfl (.string s) (.string ⟨#[]⟩) rfl rfl (.bool true) (guard_eq _ _ _ _) H1.out ?_)
    go_ret
    exact ⟨by rw [HF.out]; rfl, Below.refl _ _⟩
  have H1 : Hid (∀ W, (binOp .eql 9 (.string s) (.string ⟨#[]⟩)).run Tryz.prog W = .ok (.bool false) W) := fun W => by
    rw [str_eql, show (⟨#[]⟩ : ByteArray).data.toList = ([] : List UInt8) from rfl, beq_eq_false_iff_ne.2 (fun e => hn0 (by rw [Lib.size_eq, e]; rfl))]
  by_cases h100 : 100 < s.size
  · have HF := Lib.hid (keyB_far h100)
    have hgt : (100 : Int) < (s.size : Int) := by omega
    clear hn0 h100
    go_enter Tryz.func84, Tryz.ntmps84
    go_wp2_with (first
      | refine wpList_eql (by rfl) .eql 9 _ _ _ rfl (.string s) (.string ⟨#[]⟩) rfl rfl (.bool false) (guard_eq _ _ _ _) H1.out ?_)
    go_ret
    exact ⟨by rw [HF.out]; rfl, Below.refl _ _⟩
  have HA := Lib.hid (keyB_all hn0 h100)
  have hgt : ¬ (100 : Int) < (s.size : Int) := by omega
  have HS1 : Hid (s.size ≤ 100) := by show _ ≤ _; omega
  have HB := Lib.hid (bytes_new w s (by omega))
  obtain ⟨cp, hcp, hcv⟩ := conv_bytes w s
  have HBW : Hid (Below w.heap.size w (Lib.bytesWorld w 5 s)) := Lib.bytesWorld_below _ _ _
  clear hn0 h100 hcp hs
  go_enter Tryz.func84, Tryz.ntmps84
  go_wp2_with (first
    | refine wpList_eql (by rfl) .eql 9 _ _ _ rfl (.string s) (.string ⟨#[]⟩) rfl rfl (.bool false) (guard_eq _ _ _ _) H1.out ?_)
  clear hcv hgt H1
  generalize Lib.bytesWorld w 5 s = w1 at *
  go_loop [17] (fun i => ∃ m : Nat, m ≤ s.size ∧ i = .int .i64 (m : Int) ∧ ∀ j, j < m → keyByte (s.data.toList[j]?.getD 0) = true) (fun i => s.size - (intOf i).toNat)
  case atStart => exact ⟨0, Nat.zero_le _, rfl, fun j h => by omega⟩
  case round =>
    obtain ⟨m, hm, rfl, hno⟩ := hrel
    have HNO := Lib.hid hno
    have WM := Lib.hid (next_int m (by have := HS1.out; omega))
    clear hno
    by_cases hms : m < s.size
    · have hmi : (m : Int) < (s.size : Int) := by omega
      have HMS := Lib.hid hms
      have hcell : w1.cell? ⟨w.heap.size, m, none⟩ = some (.int .u8 ((s.data.toList[m]?.getD 0).toNat : Int)) := by
        rcases HB.out.2.2.2 with h0 | ⟨b, off, hb, hc⟩
        · omega
        · simp only [Option.some.injEq, Addr.mk.injEq] at hb
          obtain ⟨rfl, rfl, -⟩ := hb
          have := hc m hms
          rw [Nat.zero_add] at this
          rw [this]
          unfold numsOf
          rw [List.getElem?_map, List.getElem?_eq_getElem (by rw [← Lib.size_eq]; exact hms)]
          rfl
      have HBAD : Hid (keyByte (s.data.toList[m]?.getD 0) = false → keyB s.data.toList = false) := fun h => by
        rw [HA.out]; exact all_not (by rw [← HSZ.out]; exact HMS.out) h
      have HGO : Hid (keyByte (s.data.toList[m]?.getD 0) = true → ∀ j, j < m + 1 → keyByte (s.data.toList[j]?.getD 0) = true) := fun h j hj => by
        by_cases hjm : j = m
        · rw [hjm]; exact h
        · exact HNO.out j (by omega)
      obtain ⟨q, hq⟩ : ∃ q, s.data.toList[m]?.getD 0 = q := ⟨_, rfl⟩
      rw [hq] at hcell HBAD HGO
      have HKB : Hid (keyByte q = keyE q.toNat) := rfl
      have HC255 : Hid (q.toNat ≤ 255) := by show _ ≤ _; have := q.toNat_lt; omega
      rw [HKB.out] at HBAD HGO
      clear HKB hq hms hm
      generalize q.toNat = c at *
      have HCI : c ≤ 255 := HC255.out
      have hcs : (0 ≤ c ∧ c ≤ 44) ∨ (45 ≤ c ∧ c ≤ 45) ∨ (46 ≤ c ∧ c ≤ 47) ∨ (48 ≤ c ∧ c ≤ 57) ∨ (58 ≤ c ∧ c ≤ 64) ∨ (65 ≤ c ∧ c ≤ 90) ∨ (91 ≤ c ∧ c ≤ 94) ∨ (95 ≤ c ∧ c ≤ 95) ∨ (96 ≤ c ∧ c ≤ 96) ∨ (97 ≤ c ∧ c ≤ 122) ∨ (123 ≤ c ∧ c ≤ 255) := by omega
      rcases hcs with hc | hc | hc | hc | hc | hc | hc | hc | hc | hc | hc
      · -- 0 .. 44
        have g97 : ¬ (97 : Int) ≤ (c : Int) := by omega
        have g65 : ¬ (65 : Int) ≤ (c : Int) := by omega
        have g48 : ¬ (48 : Int) ≤ (c : Int) := by omega
        have l122 : (c : Int) ≤ 122 := by omega
        have l90 : (c : Int) ≤ 90 := by omega
        have l57 : (c : Int) ≤ 57 := by omega
        have e45 : ¬ (c : Int) = 45 := by omega
        have n45 : ((c : Int) != 45) = true := bne_iff_ne.2 e45
        have e95 : ¬ (c : Int) = 95 := by omega
        have n95 : ((c : Int) != 95) = true := bne_iff_ne.2 e95
        have HF := Lib.hid (HBAD.out (Bool.eq_false_iff.2 fun h => by have := keyE_iff.1 h; omega))
        clear HBAD HGO hc HCI
        generalize (c : Int) = ci at *
        go_wp2_with fail
        (try simp only [Exit.inBlock, Exit.then])
        go_ret
        exact ⟨by rw [HF.out]; rfl, HBW.out⟩
      · -- 45 .. 45
        have g97 : ¬ (97 : Int) ≤ (c : Int) := by omega
        have g65 : ¬ (65 : Int) ≤ (c : Int) := by omega
        have g48 : ¬ (48 : Int) ≤ (c : Int) := by omega
        have l122 : (c : Int) ≤ 122 := by omega
        have l90 : (c : Int) ≤ 90 := by omega
        have l57 : (c : Int) ≤ 57 := by omega
        have e45 : (c : Int) = 45 := by omega
        have n45 : ((c : Int) != 45) = false := by rw [e45]; rfl
        clear e45
        have e95 : ¬ (c : Int) = 95 := by omega
        have n95 : ((c : Int) != 95) = true := bne_iff_ne.2 e95
        have HG := Lib.hid (HGO.out (keyE_iff.2 (by omega)))
        clear HBAD HGO hc HCI
        generalize (c : Int) = ci at *
        go_wp2_with fail
        exact ⟨⟨m + 1, HMS.out, by first | rw [WM.out _ rfl] | rfl, HG.out⟩, by have := HMS.out; (first | rw [WM.out _ rfl] | skip); simp [intOf]; omega⟩
      · -- 46 .. 47
        have g97 : ¬ (97 : Int) ≤ (c : Int) := by omega
        have g65 : ¬ (65 : Int) ≤ (c : Int) := by omega
        have g48 : ¬ (48 : Int) ≤ (c : Int) := by omega
        have l122 : (c : Int) ≤ 122 := by omega
        have l90 : (c : Int) ≤ 90 := by omega
        have l57 : (c : Int) ≤ 57 := by omega
        have e45 : ¬ (c : Int) = 45 := by omega
        have n45 : ((c : Int) != 45) = true := bne_iff_ne.2 e45
        have e95 : ¬ (c : Int) = 95 := by omega
        have n95 : ((c : Int) != 95) = true := bne_iff_ne.2 e95
        have HF := Lib.hid (HBAD.out (Bool.eq_false_iff.2 fun h => by have := keyE_iff.1 h; omega))
        clear HBAD HGO hc HCI
        generalize (c : Int) = ci at *
        go_wp2_with fail
        (try simp only [Exit.inBlock, Exit.then])
        go_ret
        exact ⟨by rw [HF.out]; rfl, HBW.out⟩
      · -- 48 .. 57
        have g97 : ¬ (97 : Int) ≤ (c : Int) := by omega
        have g65 : ¬ (65 : Int) ≤ (c : Int) := by omega
        have g48 : (48 : Int) ≤ (c : Int) := by omega
        have l122 : (c : Int) ≤ 122 := by omega
        have l90 : (c : Int) ≤ 90 := by omega
        have l57 : (c : Int) ≤ 57 := by omega
        have e45 : ¬ (c : Int) = 45 := by omega
        have n45 : ((c : Int) != 45) = true := bne_iff_ne.2 e45
        have e95 : ¬ (c : Int) = 95 := by omega
        have n95 : ((c : Int) != 95) = true := bne_iff_ne.2 e95
        have HG := Lib.hid (HGO.out (keyE_iff.2 (by omega)))
        clear HBAD HGO hc HCI
        generalize (c : Int) = ci at *
        go_wp2_with fail
        exact ⟨⟨m + 1, HMS.out, by first | rw [WM.out _ rfl] | rfl, HG.out⟩, by have := HMS.out; (first | rw [WM.out _ rfl] | skip); simp [intOf]; omega⟩
      · -- 58 .. 64
        have g97 : ¬ (97 : Int) ≤ (c : Int) := by omega
        have g65 : ¬ (65 : Int) ≤ (c : Int) := by omega
        have g48 : (48 : Int) ≤ (c : Int) := by omega
        have l122 : (c : Int) ≤ 122 := by omega
        have l90 : (c : Int) ≤ 90 := by omega
        have l57 : ¬ (c : Int) ≤ 57 := by omega
        have e45 : ¬ (c : Int) = 45 := by omega
        have n45 : ((c : Int) != 45) = true := bne_iff_ne.2 e45
        have e95 : ¬ (c : Int) = 95 := by omega
        have n95 : ((c : Int) != 95) = true := bne_iff_ne.2 e95
        have HF := Lib.hid (HBAD.out (Bool.eq_false_iff.2 fun h => by have := keyE_iff.1 h; omega))
        clear HBAD HGO hc HCI
        generalize (c : Int) = ci at *
        go_wp2_with fail
        (try simp only [Exit.inBlock, Exit.then])
        go_ret
        exact ⟨by rw [HF.out]; rfl, HBW.out⟩
      · -- 65 .. 90
        have g97 : ¬ (97 : Int) ≤ (c : Int) := by omega
        have g65 : (65 : Int) ≤ (c : Int) := by omega
        have g48 : (48 : Int) ≤ (c : Int) := by omega
        have l122 : (c : Int) ≤ 122 := by omega
        have l90 : (c : Int) ≤ 90 := by omega
        have l57 : ¬ (c : Int) ≤ 57 := by omega
        have e45 : ¬ (c : Int) = 45 := by omega
        have n45 : ((c : Int) != 45) = true := bne_iff_ne.2 e45
        have e95 : ¬ (c : Int) = 95 := by omega
        have n95 : ((c : Int) != 95) = true := bne_iff_ne.2 e95
        have HG := Lib.hid (HGO.out (keyE_iff.2 (by omega)))
        clear HBAD HGO hc HCI
        generalize (c : Int) = ci at *
        go_wp2_with fail
        exact ⟨⟨m + 1, HMS.out, by first | rw [WM.out _ rfl] | rfl, HG.out⟩, by have := HMS.out; (first | rw [WM.out _ rfl] | skip); simp [intOf]; omega⟩
      · -- 91 .. 94
        have g97 : ¬ (97 : Int) ≤ (c : Int) := by omega
        have g65 : (65 : Int) ≤ (c : Int) := by omega
        have g48 : (48 : Int) ≤ (c : Int) := by omega
        have l122 : (c : Int) ≤ 122 := by omega
        have l90 : ¬ (c : Int) ≤ 90 := by omega
        have l57 : ¬ (c : Int) ≤ 57 := by omega
        have e45 : ¬ (c : Int) = 45 := by omega
        have n45 : ((c : Int) != 45) = true := bne_iff_ne.2 e45
        have e95 : ¬ (c : Int) = 95 := by omega
        have n95 : ((c : Int) != 95) = true := bne_iff_ne.2 e95
        have HF := Lib.hid (HBAD.out (Bool.eq_false_iff.2 fun h => by have := keyE_iff.1 h; omega))
        clear HBAD HGO hc HCI
        generalize (c : Int) = ci at *
        go_wp2_with fail
        (try simp only [Exit.inBlock, Exit.then])
        go_ret
        exact ⟨by rw [HF.out]; rfl, HBW.out⟩
      · -- 95 .. 95
        have g97 : ¬ (97 : Int) ≤ (c : Int) := by omega
        have g65 : (65 : Int) ≤ (c : Int) := by omega
        have g48 : (48 : Int) ≤ (c : Int) := by omega
        have l122 : (c : Int) ≤ 122 := by omega
        have l90 : ¬ (c : Int) ≤ 90 := by omega
        have l57 : ¬ (c : Int) ≤ 57 := by omega
        have e45 : ¬ (c : Int) = 45 := by omega
        have n45 : ((c : Int) != 45) = true := bne_iff_ne.2 e45
        have e95 : (c : Int) = 95 := by omega
        have n95 : ((c : Int) != 95) = false := by rw [e95]; rfl
        clear e95
        have HG := Lib.hid (HGO.out (keyE_iff.2 (by omega)))
        clear HBAD HGO hc HCI
        generalize (c : Int) = ci at *
        go_wp2_with fail
        exact ⟨⟨m + 1, HMS.out, by first | rw [WM.out _ rfl] | rfl, HG.out⟩, by have := HMS.out; (first | rw [WM.out _ rfl] | skip); simp [intOf]; omega⟩
      · -- 96 .. 96
        have g97 : ¬ (97 : Int) ≤ (c : Int) := by omega
        have g65 : (65 : Int) ≤ (c : Int) := by omega
        have g48 : (48 : Int) ≤ (c : Int) := by omega
        have l122 : (c : Int) ≤ 122 := by omega
        have l90 : ¬ (c : Int) ≤ 90 := by omega
        have l57 : ¬ (c : Int) ≤ 57 := by omega
        have e45 : ¬ (c : Int) = 45 := by omega
        have n45 : ((c : Int) != 45) = true := bne_iff_ne.2 e45
        have e95 : ¬ (c : Int) = 95 := by omega
        have n95 : ((c : Int) != 95) = true := bne_iff_ne.2 e95
        have HF := Lib.hid (HBAD.out (Bool.eq_false_iff.2 fun h => by have := keyE_iff.1 h; omega))
        clear HBAD HGO hc HCI
        generalize (c : Int) = ci at *
        go_wp2_with fail
        (try simp only [Exit.inBlock, Exit.then])
        go_ret
        exact ⟨by rw [HF.out]; rfl, HBW.out⟩
      · -- 97 .. 122
        have g97 : (97 : Int) ≤ (c : Int) := by omega
        have g65 : (65 : Int) ≤ (c : Int) := by omega
        have g48 : (48 : Int) ≤ (c : Int) := by omega
        have l122 : (c : Int) ≤ 122 := by omega
        have l90 : ¬ (c : Int) ≤ 90 := by omega
        have l57 : ¬ (c : Int) ≤ 57 := by omega
        have e45 : ¬ (c : Int) = 45 := by omega
        have n45 : ((c : Int) != 45) = true := bne_iff_ne.2 e45
        have e95 : ¬ (c : Int) = 95 := by omega
        have n95 : ((c : Int) != 95) = true := bne_iff_ne.2 e95
        have HG := Lib.hid (HGO.out (keyE_iff.2 (by omega)))
        clear HBAD HGO hc HCI
        generalize (c : Int) = ci at *
        go_wp2_with fail
        exact ⟨⟨m + 1, HMS.out, by first | rw [WM.out _ rfl] | rfl, HG.out⟩, by have := HMS.out; (first | rw [WM.out _ rfl] | skip); simp [intOf]; omega⟩
      · -- 123 .. 255
        have g97 : (97 : Int) ≤ (c : Int) := by omega
        have g65 : (65 : Int) ≤ (c : Int) := by omega
        have g48 : (48 : Int) ≤ (c : Int) := by omega
        have l122 : ¬ (c : Int) ≤ 122 := by omega
        have l90 : ¬ (c : Int) ≤ 90 := by omega
        have l57 : ¬ (c : Int) ≤ 57 := by omega
        have e45 : ¬ (c : Int) = 45 := by omega
        have n45 : ((c : Int) != 45) = true := bne_iff_ne.2 e45
        have e95 : ¬ (c : Int) = 95 := by omega
        have n95 : ((c : Int) != 95) = true := bne_iff_ne.2 e95
        have HF := Lib.hid (HBAD.out (Bool.eq_false_iff.2 fun h => by have := keyE_iff.1 h; omega))
        clear HBAD HGO hc HCI
        generalize (c : Int) = ci at *
        go_wp2_with fail
        (try simp only [Exit.inBlock, Exit.then])
        go_ret
        exact ⟨by rw [HF.out]; rfl, HBW.out⟩
    · have hmi : ¬ (m : Int) < (s.size : Int) := by omega
      have HT : Hid (keyB s.data.toList = true) := by
        show _ = _
        rw [HA.out]
        exact all_yes fun j hj => HNO.out j (by rw [← HSZ.out] at hj; omega)
      clear hms hm
      go_wp2_with fail
      go_ret
      exact ⟨by rw [HT.out]; rfl, HBW.out⟩
end Go.Proofs.YtkpiinjhcckhfaaGreatDoor
