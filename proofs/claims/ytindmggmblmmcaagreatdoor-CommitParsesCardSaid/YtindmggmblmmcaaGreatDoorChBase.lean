/- Ids, texts, strings, slices of bytes. -/
import Derived.Test.YtindmggmblmmcaaGreatDoorParse
import Derived.Test.YtindmggmblmmcaaGreatDoorSub
import Derived.Test.YtindmggmblmmcaaGreatDoorCutMath
import Derived.Test.YtindmggmblmmcaaGreatDoorCoAny
import Derived.Deep.QuietTactic
import Derived.BigQuiet
import Derived.Laws.ResultCell
import Derived.Lib.Split
import Derived.Lib.SplitLaws
import Derived.Lib.IndexAny
import Derived.Deep.AppendSrc
namespace Go.Proofs.YtindmggmblmmcaaGreatDoor
open Go.RowKit Plain
set_option linter.unusedVariables false
theorem goodTo_at (s : ByteArray) (k i : Nat) (h : goodTo s k = true) (hi : i < k) : 0 ≤ nib (at8 s (2 * i)) ∧ 0 ≤ nib (at8 s (2 * i + 1)) := by
  unfold goodTo at h
  rw [List.all_eq_true] at h
  have := h i (List.mem_range.2 hi)
  simpa using this
theorem isHex_at (s : ByteArray) (h : isHex s = true) (j : Nat) (hj : j < 40) : 0 ≤ nib (at8 s j) := by
  simp [isHex] at h
  have := goodTo_at s 20 (j / 2) h.2 (by omega)
  rcases Nat.mod_two_eq_zero_or_one j with e | e
  · rw [show j = 2 * (j / 2) by omega]; exact this.1
  · rw [show j = 2 * (j / 2) + 1 by omega]; exact this.2
theorem isHex_of (s : ByteArray) (h40 : s.size = 40) (h : ∀ j, j < 40 → 0 ≤ nib (at8 s j)) : isHex s = true := by
  simp only [isHex, h40, decide_true, Bool.true_and]
  unfold goodTo
  rw [List.all_eq_true]
  intro i hi
  have := List.mem_range.1 hi
  simp [h (2 * i) (by omega), h (2 * i + 1) (by omega)]
/-- A text's digits as numbers. -/
def hexN (ids : List Int) : List Int := ids.flatMap fun x => [(hexD (x.toNat / 16) : Int), (hexD (x.toNat % 16) : Int)]
theorem hexD_le (n : Nat) (h : n < 16) : (48 ≤ hexD n ∧ hexD n ≤ 57) ∨ (97 ≤ hexD n ∧ hexD n ≤ 102) := by unfold hexD; split <;> omega
theorem hexN_mem (ids : List Int) (hb : ∀ x ∈ ids, 0 ≤ x ∧ x ≤ 255) : ∀ y ∈ hexN ids, (48 ≤ y ∧ y ≤ 57) ∨ (97 ≤ y ∧ y ≤ 102) := by
  intro y hy
  obtain ⟨x, hx, hy⟩ := List.mem_flatMap.1 hy
  have h := hb x hx
  simp only [List.mem_cons, List.not_mem_nil, or_false] at hy
  rcases hy with rfl | rfl
  · have := hexD_le (x.toNat / 16) (by omega); omega
  · have := hexD_le (x.toNat % 16) (by omega); omega
theorem hexN_text (ids : List Int) (hb : ∀ x ∈ ids, 0 ≤ x ∧ x ≤ 255) : strOfNums (hexN ids) = ⟨(hexOf ids).toArray⟩ := by
  unfold strOfNums hexN hexOf
  rw [List.map_flatMap]
  rfl
theorem hexN_length (ids : List Int) : (hexN ids).length = 2 * ids.length := by
  induction ids with
  | nil => rfl
  | cons x t ih => simp [hexN] at ih ⊢; omega
theorem at8_nums (xs : List Int) (hb : ∀ x ∈ xs, 0 ≤ x ∧ x ≤ 255) (j : Nat) (hj : j < xs.length) : (at8 (strOfNums xs) j : Int) = xs[j]?.getD 0 := by
  unfold at8
  rw [strOfNums_data, List.getElem?_map, List.getElem?_eq_getElem hj]
  have := hb _ (List.getElem_mem hj)
  simp only [Option.map_some, Option.getD_some, UInt8.toNat_ofNat']
  omega
theorem nib_good (c : Nat) (h : (48 ≤ (c : Int) ∧ (c : Int) ≤ 57) ∨ (97 ≤ (c : Int) ∧ (c : Int) ≤ 102)) : 0 ≤ nib c := by
  unfold nib; split <;> (try split) <;> omega
theorem hex_good (ids : List Int) (h20 : ids.length = 20) (hb : ∀ x ∈ ids, 0 ≤ x ∧ x ≤ 255) : isHex (strOfNums (hexN ids)) = true := by
  have hl : (hexN ids).length = 40 := by rw [hexN_length, h20]
  have hm := hexN_mem ids hb
  have hb' : ∀ x ∈ hexN ids, 0 ≤ x ∧ x ≤ 255 := fun x hx => by have := hm x hx; omega
  refine isHex_of _ (by rw [strOfNums_size, hl]) fun j hj => nib_good _ ?_
  rw [at8_nums _ hb' j (by omega), List.getElem?_eq_getElem (by omega)]
  exact hm _ (List.getElem_mem _)
theorem nib_hexD (m c : Nat) (h : m < 16) : c = hexD m ↔ nib c = (m : Int) := by
  unfold hexD nib
  split <;> (try split) <;> (try split) <;> omega
theorem hexN_at (ids : List Int) (i : Nat) (h : i < ids.length) : (hexN ids)[2 * i]? = some (hexD ((ids[i]?.getD 0).toNat / 16) : Int) ∧ (hexN ids)[2 * i + 1]? = some (hexD ((ids[i]?.getD 0).toNat % 16) : Int) := by
  induction ids generalizing i with
  | nil => simp at h
  | cons x t ih =>
    have e : hexN (x :: t) = (hexD (x.toNat / 16) : Int) :: (hexD (x.toNat % 16) : Int) :: hexN t := rfl
    rw [e]
    cases i with
    | zero => simp
    | succ i =>
      have := ih i (by simpa using h)
      rw [show 2 * (i + 1) = (2 * i) + 1 + 1 by omega, show (2 * i) + 1 + 1 + 1 = (2 * i + 1) + 1 + 1 by omega]
      simpa using this
theorem parsed_hex (ids : List Int) (h20 : ids.length = 20) (hb : ∀ x ∈ ids, 0 ≤ x ∧ x ≤ 255) : parsed (strOfNums (hexN ids)) = ids := by
  have hl : (hexN ids).length = 40 := by rw [hexN_length, h20]
  have hm := hexN_mem ids hb
  have hb' : ∀ x ∈ hexN ids, 0 ≤ x ∧ x ≤ 255 := fun x hx => by have := hm x hx; omega
  unfold parsed
  rw [if_pos (hex_good ids h20 hb)]
  apply List.ext_getElem (by rw [valsTo_length, h20])
  intro i h1 h2
  have hi : i < 20 := by omega
  simp only [valsTo, List.getElem_map, List.getElem_range, if_pos hi]
  have a0 := at8_nums _ hb' (2 * i) (by omega)
  have a1 := at8_nums _ hb' (2 * i + 1) (by omega)
  obtain ⟨q0, q1⟩ := hexN_at ids i h2
  rw [q0] at a0
  rw [q1] at a1
  rw [List.getElem?_eq_getElem h2] at a0 a1
  simp only [Option.getD_some] at a0 a1
  have hx := hb _ (List.getElem_mem h2)
  have n0 := (nib_hexD (ids[i].toNat / 16) (at8 (strOfNums (hexN ids)) (2 * i)) (by omega)).1 (by omega)
  have n1 := (nib_hexD (ids[i].toNat % 16) (at8 (strOfNums (hexN ids)) (2 * i + 1)) (by omega)).1 (by omega)
  unfold valAt
  rw [n0, n1]
  omega
theorem at8_text (s : ByteArray) (j : Nat) (h : j < s.data.toList.length) : s.data.toList[j] = UInt8.ofNat (at8 s j) := by
  unfold at8
  rw [List.getElem?_eq_getElem h]
  simp
theorem parsed_length (s : ByteArray) : (parsed s).length = 20 := by
  unfold parsed; split
  · exact valsTo_length _ _
  · simp
theorem parsed_bytes (s : ByteArray) : ∀ x ∈ parsed s, 0 ≤ x ∧ x ≤ 255 := by
  intro x hx
  unfold parsed at hx
  split at hx
  · rename_i h
    obtain ⟨i, hi, rfl⟩ := List.mem_map.1 hx
    have hi' := List.mem_range.1 hi
    rw [if_pos hi']
    have h0 := isHex_at s h (2 * i) (by omega)
    have h1 := isHex_at s h (2 * i + 1) (by omega)
    have l0 := nib_le (at8 s (2 * i))
    have l1 := nib_le (at8 s (2 * i + 1))
    unfold valAt; omega
  · rw [List.mem_replicate] at hx; omega
theorem hex_parsed (s : ByteArray) (h : isHex s = true) : (⟨(hexOf (parsed s)).toArray⟩ : ByteArray) = s := by
  have h40 : s.size = 40 := by simp [isHex] at h; exact h.1
  rw [← hexN_text _ (parsed_bytes s)]
  have hl : (hexN (parsed s)).length = 40 := by rw [hexN_length, parsed_length]
  have key : (strOfNums (hexN (parsed s))).data.toList = s.data.toList := by
    rw [strOfNums_data]
    apply List.ext_getElem (by simp [hl]; omega)
    intro j h1 h2
    rw [at8_text s j h2]
    have hj : j < 40 := by simpa [hl] using h1
    rw [List.getElem_map]
    congr 1
    have hi : j / 2 < (parsed s).length := by rw [parsed_length]; omega
    obtain ⟨q0, q1⟩ := hexN_at (parsed s) (j / 2) hi
    have hv : (parsed s)[j / 2]?.getD 0 = valAt s (j / 2) := by
      unfold parsed; rw [if_pos h]; unfold valsTo
      rw [List.getElem?_map, List.getElem?_range (by omega)]
      simp; omega
    rw [hv] at q0 q1
    have g0 := isHex_at s h (2 * (j / 2)) (by omega)
    have g1 := isHex_at s h (2 * (j / 2) + 1) (by omega)
    have l0 := nib_le (at8 s (2 * (j / 2)))
    have l1 := nib_le (at8 s (2 * (j / 2) + 1))
    have d0 := (nib_hexD (nib (at8 s (2 * (j / 2)))).toNat (at8 s (2 * (j / 2))) (by omega)).2 (by omega)
    have d1 := (nib_hexD (nib (at8 s (2 * (j / 2) + 1))).toNat (at8 s (2 * (j / 2) + 1)) (by omega)).2 (by omega)
    have v0 : (valAt s (j / 2)).toNat / 16 = (nib (at8 s (2 * (j / 2)))).toNat := by unfold valAt; omega
    have v1 : (valAt s (j / 2)).toNat % 16 = (nib (at8 s (2 * (j / 2) + 1))).toNat := by unfold valAt; omega
    rw [v0, ← d0] at q0
    rw [v1, ← d1] at q1
    rcases Nat.mod_two_eq_zero_or_one j with e | e
    · have ej : 2 * (j / 2) = j := by omega
      rw [ej] at q0
      rw [List.getElem?_eq_getElem (by omega)] at q0
      have := Option.some.inj q0
      rw [this]; simp
    · have ej : 2 * (j / 2) + 1 = j := by omega
      rw [ej] at q1
      rw [List.getElem?_eq_getElem (by omega)] at q1
      have := Option.some.inj q1
      rw [this]; simp
  exact ByteArray.ext (Array.toList_inj.1 key)
theorem eq_same (xs : List Int) (h : xs.length = 20) (w : World) : (Op.equalIn 10000 29 (.agg (V8 xs)) (.agg (V8 xs))).run Tryz.prog w = .ok true w := by
  rw [run_equalIn_arr w 29 20 Tryz.underlying29 _ _ h h]; simp
theorem eq_same24 (xs : List Int) (h : xs.length = 20) (w : World) : (Op.equalIn 10000 22 (.agg (V8 xs)) (.agg (V8 xs))).run Tryz.prog w = .ok true w := by
  rw [run_equalIn_arr w 22 20 Tryz.underlying22 _ _ h h]; simp
/-- A text's bytes in a new row. -/
def numsOf (s : ByteArray) : List Int := s.data.toList.map fun c => (c.toNat : Int)
theorem numsOf_bytes (s : ByteArray) : ∀ x ∈ numsOf s, 0 ≤ x ∧ x ≤ 255 := by
  intro x hx
  obtain ⟨c, -, rfl⟩ := List.mem_map.1 hx
  have := c.toNat_lt
  omega
theorem range_of_mem {xs : List Int} (h : ∀ x ∈ xs, 0 ≤ x ∧ x ≤ 255) (j : Nat) : 0 ≤ xs[j]?.getD 0 ∧ xs[j]?.getD 0 ≤ 255 := by
  by_cases hj : j < xs.length
  · rw [List.getElem?_eq_getElem hj]; exact h _ (List.getElem_mem hj)
  · rw [List.getElem?_eq_none (by omega)]; simp
theorem numsOf_length (s : ByteArray) : (numsOf s).length = s.size := by unfold numsOf; rw [List.length_map]; rfl
theorem bytes_new (w : World) (s : ByteArray) (hs : s.size ≤ 9223372036854775807) : Bytes (Lib.bytesWorld w 5 s) (some ⟨w.heap.size, 0, none⟩) s.size (numsOf s) := by
  refine ⟨numsOf_length s, hs, range_of_mem (numsOf_bytes s), .inr ⟨_, _, rfl, fun j hj => ?_⟩⟩
  rw [Nat.zero_add, Lib.bytesWorld_cell w 5 s j hj]
  unfold numsOf
  have hj' : j < s.data.toList.length := by simpa using hj
  rw [List.getElem?_map, List.getElem?_eq_getElem hj', List.getD_eq_getElem?_getD, List.getElem?_eq_getElem hj']
  rfl
theorem conv_bytes (w : World) (s : ByteArray) : ∃ c, s.size ≤ c ∧ (convert 9 37 (.string s)).run Tryz.prog w = .ok (.slice (some ⟨w.heap.size, 0, none⟩) s.size c) (Lib.bytesWorld w 5 s) := by
  have hge := grownCap_ge w s.size 0 5
  exact ⟨_, hge, Lib.run_convert_string_bytes w 9 37 5 s Tryz.underlying9 Tryz.underlying37 Tryz.underlying5⟩
theorem nums_str (xs : List Int) (h : ∀ x ∈ xs, 0 ≤ x ∧ x ≤ 255) : numsOf (strOfNums xs) = xs := by
  unfold numsOf
  rw [strOfNums_data, List.map_map]
  conv => rhs; rw [← List.map_id xs]
  apply List.map_congr_left
  intro x hx
  have := h x hx
  simp
  omega
theorem str_nums (s : ByteArray) : strOfNums (numsOf s) = s := by
  have h : (strOfNums (numsOf s)).data.toList = s.data.toList := by
    rw [strOfNums_data]
    unfold numsOf
    rw [List.map_map]
    conv => rhs; rw [← List.map_id s.data.toList]
    apply List.map_congr_left
    intro x hx
    simp
  have h2 : (strOfNums (numsOf s)).data = s.data := Array.toList_inj.1 h
  cases s
  cases hs : strOfNums (numsOf _)
  rw [hs] at h2
  simp only at h2
  rw [h2]
theorem slice_text (s : ByteArray) (lo hi : Nat) (h1 : lo ≤ hi) (h2 : hi ≤ s.size) (x : Int) (hx : x = (hi : Int)) (w : World) : (Instr.slice 9 (.string s) (some (.int .i64 (lo : Int))) (some (.int .i64 x)) none).run Tryz.prog w = .ok (.string (s.extract lo hi)) w := by
  subst hx
  have ht := Tryz.underlying9
  simp [Instr.slice, run_underlying ht, Instr.sliceBounds, run_sliceBound, h1, h2]
theorem guard_ne (x y : Operand) (s t : ByteArray) (W : World) : (eqGuard .neq 9 x y (.string s) (.string t)).run Tryz.prog W = .ok () W := by simp [eqGuard]
theorem guard_eq (x y : Operand) (s t : ByteArray) (W : World) : (eqGuard .eql 9 x y (.string s) (.string t)).run Tryz.prog W = .ok () W := by simp [eqGuard]
theorem guard_geq2 (x y : Operand) (s t : ByteArray) (W : World) : (eqGuard .geq 9 x y (.string s) (.string t)).run Tryz.prog W = .ok () W := by simp [eqGuard]
theorem wpList_eql {P : Program} {w : World} {ops : Array Oper} {rest : List Oper} {o : Oper} {a : Act} {Q : Exit → Act → World → Prop} (hw : Region.wanted o (yielded ops a.tmps) = true) (b : BinOp) (ty : TypeId) (x y : Operand) (tz : TypeId) (ho : o.op = .binOp b ty x y tz)
    (u1 u2 : Value) (h1 : a.eval x = u1) (h2 : a.eval y = u2) (v : Value) (hg : ∀ W, (eqGuard b ty x y u1 u2).run P W = .ok () W) (hr : ∀ W, (binOp b ty u1 u2).run P W = .ok v W) (h : wpList P ops Q rest (a.put o.dst v) w) : wpList P ops Q (o :: rest) a w := by
  refine wpList_step ?_
  intro K hK
  rw [if_pos hw]
  unfold Oper.wp execOp
  simp only [ho, h1, h2, Sem.run_bind, hg, hr, Result.andThen_ok]
  exact hK _ _ h
theorem ne_str (a b : ByteArray) (e : Bool) (h : (a.toList == b.toList) = e) (W : World) : (binOp .neq 9 (.string a) (.string b)).run Tryz.prog W = .ok (.bool (!e)) W := by
  rw [binOp_string_neq, h]; rfl
def txt (l : List UInt8) : ByteArray := ⟨l.toArray⟩
theorem txt_list (l : List UInt8) : (txt l).data.toList = l := by simp [txt]
theorem txt_size (l : List UInt8) : (txt l).size = l.length := by rw [Lib.size_eq, txt_list]
theorem txt_of (s : ByteArray) : txt s.data.toList = s := by cases s; simp [txt]
theorem add_str (a b : ByteArray) (h : a.size + b.size ≤ 1000000000) (W : World) : (Op.stringOp .add a b).run Tryz.prog W = .ok (.string (a ++ b)) W := run_string_add_sum W a b (by omega)
theorem at8_txt (l : List UInt8) (i : Nat) : at8 (txt l) i = (l[i]?.getD 0).toNat := by unfold at8; rw [txt_list]
theorem isHex_len {l : List UInt8} (h : isHex (txt l) = true) : l.length = 40 := by
  unfold isHex at h
  simp only [Bool.and_eq_true, decide_eq_true_eq] at h
  rw [← txt_size]; exact h.1
theorem isHex_not {l : List UInt8} (h : isHex (txt l) = true) {c : UInt8} (hc : nib c.toNat < 0) : c ∉ l := fun hm => by
  obtain ⟨j, hj, e⟩ := List.mem_iff_getElem.1 hm
  have h0 := isHex_at (txt l) h j (by rw [isHex_len h] at hj; exact hj)
  rw [at8_txt, List.getElem?_eq_getElem hj, Option.getD_some, e] at h0
  omega
theorem hex_back {ids : List Int} (h : ids.length = 20) (hb : ∀ x ∈ ids, 0 ≤ x ∧ x ≤ 255) : isHex (txt (hexOf ids)) = true ∧ parsed (txt (hexOf ids)) = ids := by
  have e : txt (hexOf ids) = strOfNums (hexN ids) := (hexN_text ids hb).symm
  rw [e]
  exact ⟨hex_good ids h hb, parsed_hex ids h hb⟩
theorem bytes_ext {a b : ByteArray} (h : a.data.toList = b.data.toList) : a = b := by
  cases a; cases b
  simp only at h
  rw [Array.toList_inj.1 h]
theorem extract_list (s : ByteArray) (i : Nat) : (s.extract 0 i).data.toList = s.data.toList.take i := by
  simp [ByteArray.data_extract]
theorem slice_txt (l : List UInt8) (lo hi : Nat) (h1 : lo ≤ hi) (h2 : hi ≤ l.length) (y x : Int) (hy : y = (lo : Int)) (hx : x = (hi : Int)) (w : World) : (Instr.slice 9 (.string (txt l)) (some (.int .i64 y)) (some (.int .i64 x)) none).run Tryz.prog w = .ok (.string (txt ((l.drop lo).take (hi - lo)))) w := by
  subst hx hy
  have ht := Tryz.underlying9
  have h3 : hi ≤ (txt l).size := by rw [txt_size]; exact h2
  have e : (txt l).extract lo hi = txt ((l.drop lo).take (hi - lo)) := by
    apply ByteArray.ext
    apply Array.toList_inj.1
    rw [txt_list]
    simp [txt, List.extract_eq_take_drop]
  simp [Instr.slice, run_underlying ht, Instr.sliceBounds, run_sliceBound, h1, h3, e]
theorem at8_get (l : List UInt8) (i : Nat) (c : UInt8) (h : i < l.length) : l[i]? = some c ↔ at8 (txt l) i = c.toNat := by
  rw [at8_txt, List.getElem?_eq_getElem h, Option.getD_some, Option.some_inj]
  exact ⟨fun e => by rw [e], fun e => UInt8.toNat_inj.1 e⟩
theorem eq_self (s : ByteArray) (W : World) : (binOp .eql 9 (.string s) (.string s)).run Tryz.prog W = .ok (.bool true) W := by
  rw [str_eql, beq_self_eq_true]
theorem yieldsIf_conv {P : Program} {ops : Array Oper} {S : World → Prop} {op : Oper} {a : Act} (hw : Region.wanted op (yielded ops a.tmps) = true) (t1 t2 : TypeId) (x : Operand) (ho : op.op = .convert t1 t2 x)
    (u : Value) (h1 : a.eval x = u) (v : Value) (hr : ∀ W, S W → (convert t1 t2 u).run P W = .ok v W) : YieldsIf P ops S op v a := by
  refine .inl ⟨hw, fun W hS => ?_⟩
  unfold execOp
  simp [ho, h1, hr W hS]
end Go.Proofs.YtindmggmblmmcaaGreatDoor
