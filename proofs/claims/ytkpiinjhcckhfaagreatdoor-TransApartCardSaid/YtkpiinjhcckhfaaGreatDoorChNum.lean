/- Ids, texts, strings, slices of bytes. -/
import Derived.Test.YtkpiinjhcckhfaaGreatDoorHex
import Derived.Test.YtkpiinjhcckhfaaGreatDoorBytes
import Derived.Test.YtkpiinjhcckhfaaGreatDoorRight
import Derived.Deep.QuietTactic
import Derived.BigQuiet
import Derived.Laws.ResultCell
import Derived.Lib.Split
import Derived.Lib.SplitLaws
import Derived.Lib.IndexAny
import Derived.Deep.AppendSrc
import Derived.WalkSmall
import Derived.StillTactics
import Derived.Deep.RegionWith
import Derived.Lib.AtoiAllCases
import Derived.Lib.ItoaMem
/-! Ids, texts, strings, slices of bytes. -/
namespace Go.Proofs.YtkpiinjhcckhfaaGreatDoor
open Go.RowKit Plain
set_option linter.unusedVariables false
theorem goodTo_at (s : ByteArray) (k i : Nat) (h : goodTo s k = true) (hi : i < k) : 0 ≤ nib (at8 s (2 * i)) ∧ 0 ≤ nib (at8 s (2 * i + 1)) := by
  unfold goodTo at h
  rw [List.all_eq_true] at h
  have := h i (List.mem_range.2 hi)
  simpa using this
theorem isHex_at (s : ByteArray) (h : isHex s = true) (j : Nat) (hj : j < 40) : 0 ≤ nib (at8 s j) := by
  simp [isHex] at h
  have := goodTo_at s 20 (j / 2) h.2 (by omega)
  rcases Nat.mod_two_eq_zero_or_one j with e | e
  · rw [show j = 2 * (j / 2) by omega]; exact this.1
  · rw [show j = 2 * (j / 2) + 1 by omega]; exact this.2
theorem isHex_of (s : ByteArray) (h40 : s.size = 40) (h : ∀ j, j < 40 → 0 ≤ nib (at8 s j)) : isHex s = true := by
  simp only [isHex, h40, decide_true, Bool.true_and]
  unfold goodTo
  rw [List.all_eq_true]
  intro i hi
  have := List.mem_range.1 hi
  simp [h (2 * i) (by omega), h (2 * i + 1) (by omega)]
/-- A text's digits as numbers. -/
def hexN (ids : List Int) : List Int := ids.flatMap fun x => [(hexD (x.toNat / 16) : Int), (hexD (x.toNat % 16) : Int)]
theorem hexD_le (n : Nat) (h : n < 16) : (48 ≤ hexD n ∧ hexD n ≤ 57) ∨ (97 ≤ hexD n ∧ hexD n ≤ 102) := by unfold hexD; split <;> omega
theorem hexN_mem (ids : List Int) (hb : ∀ x ∈ ids, 0 ≤ x ∧ x ≤ 255) : ∀ y ∈ hexN ids, (48 ≤ y ∧ y ≤ 57) ∨ (97 ≤ y ∧ y ≤ 102) := by
  intro y hy
  obtain ⟨x, hx, hy⟩ := List.mem_flatMap.1 hy
  have h := hb x hx
  simp only [List.mem_cons, List.not_mem_nil, or_false] at hy
  rcases hy with rfl | rfl
  · have := hexD_le (x.toNat / 16) (by omega); omega
  · have := hexD_le (x.toNat % 16) (by omega); omega
theorem hexN_text (ids : List Int) (hb : ∀ x ∈ ids, 0 ≤ x ∧ x ≤ 255) : strOfNums (hexN ids) = ⟨(hexOf ids).toArray⟩ := by
  unfold strOfNums hexN hexOf
  rw [List.map_flatMap]
  rfl
theorem hexN_length (ids : List Int) : (hexN ids).length = 2 * ids.length := by
  induction ids with
  | nil => rfl
  | cons x t ih => simp [hexN] at ih ⊢; omega
theorem at8_nums (xs : List Int) (hb : ∀ x ∈ xs, 0 ≤ x ∧ x ≤ 255) (j : Nat) (hj : j < xs.length) : (at8 (strOfNums xs) j : Int) = xs[j]?.getD 0 := by
  unfold at8
  rw [strOfNums_data, List.getElem?_map, List.getElem?_eq_getElem hj]
  have := hb _ (List.getElem_mem hj)
  simp only [Option.map_some, Option.getD_some, UInt8.toNat_ofNat']
  omega
theorem nib_good (c : Nat) (h : (48 ≤ (c : Int) ∧ (c : Int) ≤ 57) ∨ (97 ≤ (c : Int) ∧ (c : Int) ≤ 102)) : 0 ≤ nib c := by
  unfold nib; split <;> (try split) <;> omega
theorem hex_good (ids : List Int) (h20 : ids.length = 20) (hb : ∀ x ∈ ids, 0 ≤ x ∧ x ≤ 255) : isHex (strOfNums (hexN ids)) = true := by
  have hl : (hexN ids).length = 40 := by rw [hexN_length, h20]
  have hm := hexN_mem ids hb
  have hb' : ∀ x ∈ hexN ids, 0 ≤ x ∧ x ≤ 255 := fun x hx => by have := hm x hx; omega
  refine isHex_of _ (by rw [strOfNums_size, hl]) fun j hj => nib_good _ ?_
  rw [at8_nums _ hb' j (by omega), List.getElem?_eq_getElem (by omega)]
  exact hm _ (List.getElem_mem _)
theorem nib_hexD (m c : Nat) (h : m < 16) : c = hexD m ↔ nib c = (m : Int) := by
  unfold hexD nib
  split <;> (try split) <;> (try split) <;> omega
theorem hexN_at (ids : List Int) (i : Nat) (h : i < ids.length) : (hexN ids)[2 * i]? = some (hexD ((ids[i]?.getD 0).toNat / 16) : Int) ∧ (hexN ids)[2 * i + 1]? = some (hexD ((ids[i]?.getD 0).toNat % 16) : Int) := by
  induction ids generalizing i with
  | nil => simp at h
  | cons x t ih =>
    have e : hexN (x :: t) = (hexD (x.toNat / 16) : Int) :: (hexD (x.toNat % 16) : Int) :: hexN t := rfl
    rw [e]
    cases i with
    | zero => simp
    | succ i =>
      have := ih i (by simpa using h)
      rw [show 2 * (i + 1) = (2 * i) + 1 + 1 by omega, show (2 * i) + 1 + 1 + 1 = (2 * i + 1) + 1 + 1 by omega]
      simpa using this
theorem parsed_hex (ids : List Int) (h20 : ids.length = 20) (hb : ∀ x ∈ ids, 0 ≤ x ∧ x ≤ 255) : parsed (strOfNums (hexN ids)) = ids := by
  have hl : (hexN ids).length = 40 := by rw [hexN_length, h20]
  have hm := hexN_mem ids hb
  have hb' : ∀ x ∈ hexN ids, 0 ≤ x ∧ x ≤ 255 := fun x hx => by have := hm x hx; omega
  unfold parsed
  rw [if_pos (hex_good ids h20 hb)]
  apply List.ext_getElem (by rw [valsTo_length, h20])
  intro i h1 h2
  have hi : i < 20 := by omega
  simp only [valsTo, List.getElem_map, List.getElem_range, if_pos hi]
  have a0 := at8_nums _ hb' (2 * i) (by omega)
  have a1 := at8_nums _ hb' (2 * i + 1) (by omega)
  obtain ⟨q0, q1⟩ := hexN_at ids i h2
  rw [q0] at a0
  rw [q1] at a1
  rw [List.getElem?_eq_getElem h2] at a0 a1
  simp only [Option.getD_some] at a0 a1
  have hx := hb _ (List.getElem_mem h2)
  have n0 := (nib_hexD (ids[i].toNat / 16) (at8 (strOfNums (hexN ids)) (2 * i)) (by omega)).1 (by omega)
  have n1 := (nib_hexD (ids[i].toNat % 16) (at8 (strOfNums (hexN ids)) (2 * i + 1)) (by omega)).1 (by omega)
  unfold valAt
  rw [n0, n1]
  omega
theorem at8_text (s : ByteArray) (j : Nat) (h : j < s.data.toList.length) : s.data.toList[j] = UInt8.ofNat (at8 s j) := by
  unfold at8
  rw [List.getElem?_eq_getElem h]
  simp
theorem parsed_length (s : ByteArray) : (parsed s).length = 20 := by
  unfold parsed; split
  · exact valsTo_length _ _
  · simp
theorem parsed_bytes (s : ByteArray) : ∀ x ∈ parsed s, 0 ≤ x ∧ x ≤ 255 := by
  intro x hx
  unfold parsed at hx
  split at hx
  · rename_i h
    obtain ⟨i, hi, rfl⟩ := List.mem_map.1 hx
    have hi' := List.mem_range.1 hi
    rw [if_pos hi']
    have h0 := isHex_at s h (2 * i) (by omega)
    have h1 := isHex_at s h (2 * i + 1) (by omega)
    have l0 := nib_le (at8 s (2 * i))
    have l1 := nib_le (at8 s (2 * i + 1))
    unfold valAt; omega
  · rw [List.mem_replicate] at hx; omega
theorem hex_parsed (s : ByteArray) (h : isHex s = true) : (⟨(hexOf (parsed s)).toArray⟩ : ByteArray) = s := by
  have h40 : s.size = 40 := by simp [isHex] at h; exact h.1
  rw [← hexN_text _ (parsed_bytes s)]
  have hl : (hexN (parsed s)).length = 40 := by rw [hexN_length, parsed_length]
  have key : (strOfNums (hexN (parsed s))).data.toList = s.data.toList := by
    rw [strOfNums_data]
    apply List.ext_getElem (by simp [hl]; omega)
    intro j h1 h2
    rw [at8_text s j h2]
    have hj : j < 40 := by simpa [hl] using h1
    rw [List.getElem_map]
    congr 1
    have hi : j / 2 < (parsed s).length := by rw [parsed_length]; omega
    obtain ⟨q0, q1⟩ := hexN_at (parsed s) (j / 2) hi
    have hv : (parsed s)[j / 2]?.getD 0 = valAt s (j / 2) := by
      unfold parsed; rw [if_pos h]; unfold valsTo
      rw [List.getElem?_map, List.getElem?_range (by omega)]
      simp; omega
    rw [hv] at q0 q1
    have g0 := isHex_at s h (2 * (j / 2)) (by omega)
    have g1 := isHex_at s h (2 * (j / 2) + 1) (by omega)
    have l0 := nib_le (at8 s (2 * (j / 2)))
    have l1 := nib_le (at8 s (2 * (j / 2) + 1))
    have d0 := (nib_hexD (nib (at8 s (2 * (j / 2)))).toNat (at8 s (2 * (j / 2))) (by omega)).2 (by omega)
    have d1 := (nib_hexD (nib (at8 s (2 * (j / 2) + 1))).toNat (at8 s (2 * (j / 2) + 1)) (by omega)).2 (by omega)
    have v0 : (valAt s (j / 2)).toNat / 16 = (nib (at8 s (2 * (j / 2)))).toNat := by unfold valAt; omega
    have v1 : (valAt s (j / 2)).toNat % 16 = (nib (at8 s (2 * (j / 2) + 1))).toNat := by unfold valAt; omega
    rw [v0, ← d0] at q0
    rw [v1, ← d1] at q1
    rcases Nat.mod_two_eq_zero_or_one j with e | e
    · have ej : 2 * (j / 2) = j := by omega
      rw [ej] at q0
      rw [List.getElem?_eq_getElem (by omega)] at q0
      have := Option.some.inj q0
      rw [this]; simp
    · have ej : 2 * (j / 2) + 1 = j := by omega
      rw [ej] at q1
      rw [List.getElem?_eq_getElem (by omega)] at q1
      have := Option.some.inj q1
      rw [this]; simp
  exact ByteArray.ext (Array.toList_inj.1 key)
/-- A text's bytes in a new row. -/
def numsOf (s : ByteArray) : List Int := s.data.toList.map fun c => (c.toNat : Int)
theorem numsOf_bytes (s : ByteArray) : ∀ x ∈ numsOf s, 0 ≤ x ∧ x ≤ 255 := by
  intro x hx
  obtain ⟨c, -, rfl⟩ := List.mem_map.1 hx
  have := c.toNat_lt
  omega
theorem range_of_mem {xs : List Int} (h : ∀ x ∈ xs, 0 ≤ x ∧ x ≤ 255) (j : Nat) : 0 ≤ xs[j]?.getD 0 ∧ xs[j]?.getD 0 ≤ 255 := by
  by_cases hj : j < xs.length
  · rw [List.getElem?_eq_getElem hj]; exact h _ (List.getElem_mem hj)
  · rw [List.getElem?_eq_none (by omega)]; simp
theorem numsOf_length (s : ByteArray) : (numsOf s).length = s.size := by unfold numsOf; rw [List.length_map]; rfl
theorem bytes_new (w : World) (s : ByteArray) (hs : s.size ≤ 9223372036854775807) : Bytes (Lib.bytesWorld w 5 s) (some ⟨w.heap.size, 0, none⟩) s.size (numsOf s) := by
  refine ⟨numsOf_length s, hs, range_of_mem (numsOf_bytes s), .inr ⟨_, _, rfl, fun j hj => ?_⟩⟩
  rw [Nat.zero_add, Lib.bytesWorld_cell w 5 s j hj]
  unfold numsOf
  have hj' : j < s.data.toList.length := by simpa using hj
  rw [List.getElem?_map, List.getElem?_eq_getElem hj', List.getD_eq_getElem?_getD, List.getElem?_eq_getElem hj']
  rfl
theorem conv_bytes (w : World) (s : ByteArray) : ∃ c, s.size ≤ c ∧ (convert 9 71 (.string s)).run Tryz.prog w = .ok (.slice (some ⟨w.heap.size, 0, none⟩) s.size c) (Lib.bytesWorld w 5 s) := by
  have hge := grownCap_ge w s.size 0 5
  exact ⟨_, hge, Lib.run_convert_string_bytes w 9 71 5 s Tryz.underlying9 Tryz.underlying71 Tryz.underlying5⟩
theorem str_nums (s : ByteArray) : strOfNums (numsOf s) = s := by
  have h : (strOfNums (numsOf s)).data.toList = s.data.toList := by
    rw [strOfNums_data]
    unfold numsOf
    rw [List.map_map]
    conv => rhs; rw [← List.map_id s.data.toList]
    apply List.map_congr_left
    intro x hx
    simp
  have h2 : (strOfNums (numsOf s)).data = s.data := Array.toList_inj.1 h
  cases s
  cases hs : strOfNums (numsOf _)
  rw [hs] at h2
  simp only at h2
  rw [h2]
theorem guard_ne (x y : Operand) (s t : ByteArray) (W : World) : (eqGuard .neq 9 x y (.string s) (.string t)).run Tryz.prog W = .ok () W := by simp [eqGuard]
theorem guard_eq (x y : Operand) (s t : ByteArray) (W : World) : (eqGuard .eql 9 x y (.string s) (.string t)).run Tryz.prog W = .ok () W := by simp [eqGuard]
theorem guard_geq2 (x y : Operand) (s t : ByteArray) (W : World) : (eqGuard .geq 9 x y (.string s) (.string t)).run Tryz.prog W = .ok () W := by simp [eqGuard]
theorem wpList_eql {P : Program} {w : World} {ops : Array Oper} {rest : List Oper} {o : Oper} {a : Act} {Q : Exit → Act → World → Prop} (hw : Region.wanted o (yielded ops a.tmps) = true) (b : BinOp) (ty : TypeId) (x y : Operand) (tz : TypeId) (ho : o.op = .binOp b ty x y tz)
    (u1 u2 : Value) (h1 : a.eval x = u1) (h2 : a.eval y = u2) (v : Value) (hg : ∀ W, (eqGuard b ty x y u1 u2).run P W = .ok () W) (hr : ∀ W, (binOp b ty u1 u2).run P W = .ok v W) (h : wpList P ops Q rest (a.put o.dst v) w) : wpList P ops Q (o :: rest) a w := by
  refine wpList_step ?_
  intro K hK
  rw [if_pos hw]
  unfold Oper.wp execOp
  simp only [ho, h1, h2, Sem.run_bind, hg, hr, Result.andThen_ok]
  exact hK _ _ h
theorem ne_str (a b : ByteArray) (e : Bool) (h : (a.toList == b.toList) = e) (W : World) : (binOp .neq 9 (.string a) (.string b)).run Tryz.prog W = .ok (.bool (!e)) W := by
  rw [binOp_string_neq, h]; rfl
def txt (l : List UInt8) : ByteArray := ⟨l.toArray⟩
theorem txt_list (l : List UInt8) : (txt l).data.toList = l := by simp [txt]
theorem txt_size (l : List UInt8) : (txt l).size = l.length := by rw [Lib.size_eq, txt_list]
theorem txt_of (s : ByteArray) : txt s.data.toList = s := by cases s; simp [txt]
theorem add_str (a b : ByteArray) (h : a.size + b.size ≤ 1000000000) (W : World) : (Op.stringOp .add a b).run Tryz.prog W = .ok (.string (a ++ b)) W := run_string_add_sum W a b (by omega)
theorem at8_txt (l : List UInt8) (i : Nat) : at8 (txt l) i = (l[i]?.getD 0).toNat := by unfold at8; rw [txt_list]
theorem isHex_len {l : List UInt8} (h : isHex (txt l) = true) : l.length = 40 := by
  unfold isHex at h
  simp only [Bool.and_eq_true, decide_eq_true_eq] at h
  rw [← txt_size]; exact h.1
theorem isHex_not {l : List UInt8} (h : isHex (txt l) = true) {c : UInt8} (hc : nib c.toNat < 0) : c ∉ l := fun hm => by
  obtain ⟨j, hj, e⟩ := List.mem_iff_getElem.1 hm
  have h0 := isHex_at (txt l) h j (by rw [isHex_len h] at hj; exact hj)
  rw [at8_txt, List.getElem?_eq_getElem hj, Option.getD_some, e] at h0
  omega
theorem hex_back {ids : List Int} (h : ids.length = 20) (hb : ∀ x ∈ ids, 0 ≤ x ∧ x ≤ 255) : isHex (txt (hexOf ids)) = true ∧ parsed (txt (hexOf ids)) = ids := by
  have e : txt (hexOf ids) = strOfNums (hexN ids) := (hexN_text ids hb).symm
  rw [e]
  exact ⟨hex_good ids h hb, parsed_hex ids h hb⟩
theorem bytes_ext {a b : ByteArray} (h : a.data.toList = b.data.toList) : a = b := by
  cases a; cases b
  simp only at h
  rw [Array.toList_inj.1 h]
theorem extract_list (s : ByteArray) (i : Nat) : (s.extract 0 i).data.toList = s.data.toList.take i := by
  simp [ByteArray.data_extract]
theorem eq_self (s : ByteArray) (W : World) : (binOp .eql 9 (.string s) (.string s)).run Tryz.prog W = .ok (.bool true) W := by
  rw [str_eql, beq_self_eq_true]
end Go.Proofs.YtkpiinjhcckhfaaGreatDoor
/-! Slices of bytes: appended to, cut. -/
namespace Go.Proofs.YtkpiinjhcckhfaaGreatDoor
open Go.RowKit Plain
set_option linter.unusedVariables false
/-- A slice of bytes, with what its ends are. -/
structure RowB (w : World) (a : Option Addr) (n c : Nat) (xs : List Int) : Prop where
  le : n ≤ c
  cap : c ≤ 9223372036854775807
  nil : a = none → c = 0
  bytes : Bytes w a n xs
theorem RowB.below {w w' : World} {a : Option Addr} {n c : Nat} {xs : List Int} (h : RowB w a n c xs) (hb : Below w.heap.size w w') : RowB w' a n c xs := ⟨h.le, h.cap, h.nil, h.bytes.below hb⟩
theorem RowB.len {w : World} {a : Option Addr} {n c : Nat} {xs : List Int} (h : RowB w a n c xs) : xs.length = n := h.bytes.1
theorem RowB.range {w : World} {a : Option Addr} {n c : Nat} {xs : List Int} (h : RowB w a n c xs) : ∀ j : Nat, 0 ≤ xs[j]?.getD 0 ∧ xs[j]?.getD 0 ≤ 255 := h.bytes.2.2.1
theorem Mid.row {w : World} {base : Nat} {a : Option Addr} {n c : Nat} {xs : List Int} (h : Mid w base (.slice a n c) n xs) (hx : ∀ j : Nat, 0 ≤ xs[j]?.getD 0 ∧ xs[j]?.getD 0 ≤ 255) : RowB w a n c xs := by
  obtain ⟨a', c', e, h1, h2, h3⟩ := h.shape
  simp only [Value.slice.injEq, true_and] at e
  obtain ⟨rfl, rfl⟩ := e
  exact ⟨h1, h3, h2, h.bytes hx⟩
theorem unhid {p : Prop} (h : p) : Hid p := h
theorem RowB.none (w : World) : RowB w none 0 0 [] := ⟨Nat.le_refl _, by omega, fun _ => rfl, (Mid.nil w 0).row (range_of_mem (by decide)) |>.bytes⟩
theorem RowB.part {w : World} {a : Option Addr} {n c : Nat} {xs : List Int} (h : RowB w a n c xs) (lo : Nat) (hlo : lo ≤ n) : RowB w (subA a c lo) (n - lo) (c - lo) (xs.drop lo) := by
  have hp := h.bytes.part c lo n hlo (Nat.le_refl _) h.le
  rw [List.take_of_length_le (by rw [List.length_drop, h.len]; omega)] at hp
  exact ⟨by have := h.le; omega, by have := h.cap; omega, subA_nil h.nil, hp⟩
end Go.Proofs.YtkpiinjhcckhfaaGreatDoor
/-! Numbers as texts. -/
namespace Go.Proofs.YtkpiinjhcckhfaaGreatDoor
open Go.RowKit Plain
set_option linter.unusedVariables false
theorem below_grow (w : World) (k : Nat) (os : Array Obj) : Below w.heap.size w (Sort.grow (w.drewN k) os) := by
  refine ⟨rfl, rfl, rfl, ?_, fun i hi => ?_⟩
  · show w.heap.size ≤ (w.heap ++ os).size
    simp
  · show (w.heap ++ os)[i]? = w.heap[i]?
    exact Array.getElem?_append_left hi
theorem dec_any (n : Nat) (hn : n ≤ 4611686018427387903) (w : World) (htab : Lib.TabIs Tryz.prog w "internal/strconv.uint64pow10" .u64 Lib.pow10Tab) :
    Calls Tryz.prog 60 #[.int .i64 (n : Int)] w fun e w' => e = .returned (.string ⟨(Lib.itoa (n : Int)).toArray⟩) ∧ Below w.heap.size w w' := by
  go_enter Tryz.func60, Tryz.ntmps60
  go_wp2_with fail
  refine (Tryz.strconv_Itoa (n : Int) (by omega) (by omega) w htab).mono ?_
  rintro e w2 ⟨rfl, k, os, rfl⟩
  have HB : Hid (Below w.heap.size w (Sort.grow (w.drewN k) os)) := below_grow w k os
  go_wp2_with fail
  go_ret
  exact ⟨rfl, HB.out⟩
/-- A text's number, and the error. -/
def decF (l : List UInt8) : Nat × Nat :=
  match Lib.atoiAll l with
  | .ok v => if 0 ≤ v ∧ v ≤ 4611686018427387903 ∧ Lib.itoa v = l then (v.toNat, 0) else (0, 4)
  | _ => (0, 4)
theorem decF_yes {l : List UInt8} {v : Int} (h : Lib.atoiAll l = .ok v) (h0 : 0 ≤ v) (h1 : v ≤ 4611686018427387903) (h2 : Lib.itoa v = l) : decF l = (v.toNat, 0) := by
  unfold decF
  rw [h]
  exact if_pos ⟨h0, h1, h2⟩
theorem decF_no {l : List UInt8} {v : Int} (h : Lib.atoiAll l = .ok v) (h3 : ¬ (0 ≤ v ∧ v ≤ 4611686018427387903 ∧ Lib.itoa v = l)) : decF l = (0, 4) := by
  unfold decF
  rw [h]
  exact if_neg h3
theorem decF_none {l : List UInt8} (h : ∀ u, Lib.atoiAll l ≠ .ok u) : decF l = (0, 4) := by
  unfold decF
  split
  · rename_i v hv; exact absurd hv (h v)
  · rfl
theorem pair_of {c d r1 r2 : Nat} (h : (r1, r2) = (c, d)) : r1 = c ∧ r2 = d := by simpa using h
/-- Both variables hold errors. -/
def ErrVars (w : World) : Prop := (∃ t p, w.var? Tryz.prog "strconv.ErrSyntax" = some #[.iface t p]) ∧ (∃ t p, w.var? Tryz.prog "strconv.ErrRange" = some #[.iface t p])
theorem tab_below {w w' : World} (h : Lib.TabIs Tryz.prog w "internal/strconv.uint64pow10" .u64 Lib.pow10Tab) (hb : Below w.heap.size w w') : Lib.TabIs Tryz.prog w' "internal/strconv.uint64pow10" .u64 Lib.pow10Tab := by
  unfold Lib.TabIs at *
  have hg : Tryz.prog.globalNamed "internal/strconv.uint64pow10" = some 3 := by kernel_rfl
  refine var?_below hb hg (World.block_lt_of_cell? w ⟨3, 0, none⟩ (u := .int .u64 1) ((World.var?_cell hg h 0).trans (by kernel_rfl))) h
theorem errVars_below {w w' : World} (h : ErrVars w) (hb : Below w.heap.size w w') : ErrVars w' := by
  obtain ⟨⟨t0, p0, h0⟩, ⟨t1, p1, h1⟩⟩ := h
  have g0 : Tryz.prog.globalNamed "strconv.ErrSyntax" = some 4 := by kernel_rfl
  have g1 : Tryz.prog.globalNamed "strconv.ErrRange" = some 5 := by kernel_rfl
  exact ⟨⟨t0, p0, var?_below hb g0 (World.block_lt_of_cell? w ⟨4, 0, none⟩ (u := .iface t0 p0) ((World.var?_cell g0 h0 0).trans rfl)) h0⟩, ⟨t1, p1, var?_below hb g1 (World.block_lt_of_cell? w ⟨5, 0, none⟩ (u := .iface t1 p1) ((World.var?_cell g1 h1 0).trans rfl)) h1⟩⟩
theorem toList_inj0 : ∀ (s t : ByteArray), s.data.toList = t.data.toList → s = t
  | ⟨⟨a⟩⟩, ⟨⟨b⟩⟩, h => by
    have : a = b := h
    rw [this]
theorem loopN (bs : ByteArray) : ∀ (n i : Nat) (r : List UInt8), bs.size - i = n → ByteArray.toList.loop bs i r = r.reverse ++ bs.data.toList.drop i
  | 0, i, r, h => by
    rw [ByteArray.toList.loop, if_neg (by omega)]
    have : bs.data.toList.length ≤ i := by show bs.size ≤ i; omega
    rw [List.drop_of_length_le this, List.append_nil]
  | n + 1, i, r, h => by
    have hi : i < bs.data.toList.length := by show i < bs.size; omega
    rw [ByteArray.toList.loop, if_pos (by omega), loopN bs n (i + 1) _ (by omega), List.drop_eq_getElem_cons hi]
    have hg : bs.get! i = bs.data.toList[i] := by
      show bs.data[i]! = _
      have : i < bs.data.size := by simpa using hi
      rw [getElem!_pos bs.data i this]
      simp
    rw [hg]
    simp
theorem toList_inj' (a b : ByteArray) (h : a.toList = b.toList) : a = b := by
  unfold ByteArray.toList at h
  rw [loopN a _ 0 [] rfl, loopN b _ 0 [] rfl] at h
  apply ByteArray.ext
  apply Array.toList_inj.1
  simpa using h
/-- Atoi, at every text. -/
theorem atoi_any (s : ByteArray) (hs : s.size ≤ 281474976710656) (w : World) (hv : ErrVars w) :
    Calls Tryz.prog 119 #[.string s] w fun e w' => (∃ v x, e = .returned (.tuple #[.int .i64 v, x]) ∧ ((x = .nilIface ∧ Lib.atoiAll s.data.toList = .ok v) ∨ ((∃ t p, x = .iface t p) ∧ ∀ u, Lib.atoiAll s.data.toList ≠ .ok u))) ∧ Below w.heap.size w w' := by
  obtain ⟨⟨t0, p0, h0⟩, ⟨t1, p1, h1⟩⟩ := hv
  cases h : Lib.atoiAll s.data.toList with
  | ok v =>
    refine (Tryz.strconv_Atoi_ok s (by omega) v h w).mono ?_
    rintro e w' ⟨rfl, hw⟩
    refine ⟨⟨v, .nilIface, rfl, .inl ⟨rfl, rfl⟩⟩, ?_⟩
    rcases hw with rfl | ⟨t, rfl⟩
    · exact Below.refl _ _
    · exact Lib.bytesWorld_below _ _ _
  | «syntax» =>
    refine (Tryz.strconv_Atoi_syntax_var s hs h t0 p0 w h0).mono ?_
    rintro e w' ⟨N, rfl, -, -, hb⟩
    exact ⟨⟨_, _, rfl, .inr ⟨⟨_, _, rfl⟩, fun u => by simp⟩⟩, hb⟩
  | range =>
    refine (Tryz.strconv_Atoi_range_var s hs h t1 p1 w h1).mono ?_
    rintro e w' ⟨N, rfl, -, -, hb⟩
    exact ⟨⟨_, _, rfl, .inr ⟨⟨_, _, rfl⟩, fun u => by simp⟩⟩, hb⟩
set_option maxRecDepth 100000 in
theorem decz_any (n : Int) (h0 : -9223372036854775808 ≤ n) (h1 : n ≤ 9223372036854775807) (w : World) (htab : Lib.TabIs Tryz.prog w "internal/strconv.uint64pow10" .u64 Lib.pow10Tab) :
    Calls Tryz.prog 60 #[.int .i64 n] w fun e w' => e = .returned (.string (txt (Lib.itoa n))) ∧ Below w.heap.size w w' := by
  go_enter Tryz.func60, Tryz.ntmps60
  go_wp2_with fail
  refine (Tryz.strconv_Itoa n h0 h1 w htab).mono ?_
  rintro e w2 ⟨rfl, k, os, rfl⟩
  have HB : Hid (Below w.heap.size w (Sort.grow (w.drewN k) os)) := below_grow w k os
  go_wp2_with fail
  go_ret
  exact ⟨rfl, HB.out⟩
set_option maxRecDepth 100000 in
set_option maxHeartbeats 4000000 in
theorem fromDec_any (s : ByteArray) (hs : s.size ≤ 281474976710656) (w : World) (htab : Lib.TabIs Tryz.prog w "internal/strconv.uint64pow10" .u64 Lib.pow10Tab) (hv : ErrVars w) :
    Calls Tryz.prog 101 #[.string s] w fun e w' => e = .returned (.tuple #[.int .i64 ((decF s.data.toList).1 : Nat), .int .i64 ((decF s.data.toList).2 : Nat)]) ∧ Below w.heap.size w w' := by
  have HT : Hid (Lib.TabIs Tryz.prog w "internal/strconv.uint64pow10" .u64 Lib.pow10Tab) := htab
  clear htab
  obtain ⟨r1, r2, hr⟩ : ∃ r1 r2, decF s.data.toList = (r1, r2) := ⟨_, _, rfl⟩
  have HR : Hid (decF s.data.toList = (r1, r2)) := hr
  rw [hr]
  clear hr
  go_enter Tryz.func101, Tryz.ntmps101
  go_wp2_with fail
  refine (atoi_any s hs w hv).mono ?_
  rintro e w1 ⟨⟨v, x, rfl, hx⟩, hb⟩
  have HB : Hid (Below w.heap.size w w1) := hb
  clear hb hv
  rcases hx with ⟨rfl, hok⟩ | ⟨⟨t, p, rfl⟩, hno⟩
  · have HOK : Hid (Lib.atoiAll s.data.toList = .ok v) := hok
    clear hok
    by_cases hneg : v < 0
    · have HE : Hid (r1 = 0 ∧ r2 = 4) := by
        have := HR.out.symm.trans (decF_no HOK.out (fun h => by omega))
        exact pair_of this
      go_wp2_with fail
      go_ret2
      obtain ⟨rfl, rfl⟩ := HE.out
      exact ⟨rfl, HB.out⟩
    · by_cases hbig : 4611686018427387903 < v
      · have HE : Hid (r1 = 0 ∧ r2 = 4) := by
          have := HR.out.symm.trans (decF_no HOK.out (fun h => by omega))
          exact pair_of this
        go_wp2_with fail
        go_ret2
        obtain ⟨rfl, rfl⟩ := HE.out
        exact ⟨rfl, HB.out⟩
      · obtain ⟨n, rfl⟩ : ∃ n : Nat, v = n := ⟨v.toNat, by omega⟩
        have hn : n ≤ 4611686018427387903 := by omega
        go_wp2_with fail
        refine (dec_any n hn w1 (tab_below HT.out HB.out)).mono ?_
        rintro e w2 ⟨rfl, hb⟩
        have HB2 : Hid (Below w.heap.size w w2) := HB.out.trans (hb.mono HB.out.size)
        clear hb
        by_cases hsame : Lib.itoa (n : Int) = s.data.toList
        · have HE : Hid (r1 = n ∧ r2 = 0) := by
            have := HR.out.symm.trans (decF_yes HOK.out (by omega) (by omega) hsame)
            exact pair_of this
          have hs1 : (⟨(Lib.itoa (n : Int)).toArray⟩ : ByteArray) = s := toList_inj0 _ _ hsame
          rw [hs1]
          go_wp2_with fail
          go_ret2
          obtain ⟨rfl, rfl⟩ := HE.out
          exact ⟨rfl, HB2.out⟩
        · have HE : Hid (r1 = 0 ∧ r2 = 4) := by
            have := HR.out.symm.trans (decF_no HOK.out (fun h => hsame h.2.2))
            exact pair_of this
          obtain ⟨S1, hS1⟩ : ∃ S : ByteArray, S = ⟨(Lib.itoa (n : Int)).toArray⟩ := ⟨_, rfl⟩
          rw [← hS1]
          have hne : ¬ S1 = s := fun h => hsame (by rw [← h, hS1])
          have hne2 : ¬ S1.toList = s.toList := fun h => hne (toList_inj' _ _ h)
          have hne3 : (S1.toList == s.toList) = false := by simpa using hne2
          clear hS1 hsame
          go_wp2_with fail
          go_ret2
          obtain ⟨rfl, rfl⟩ := HE.out
          exact ⟨rfl, HB2.out⟩
  · have HE : Hid (r1 = 0 ∧ r2 = 4) := by
      have := HR.out.symm.trans (decF_none hno)
      exact pair_of this
    clear hno
    go_wp2_with fail
    go_ret2
    obtain ⟨rfl, rfl⟩ := HE.out
    exact ⟨rfl, HB.out⟩
theorem digit_nat (d : Nat) (h : d < 10) : (UInt8.ofNat (48 + d)).toNat = 48 + d := by
  show (48 + d) % 256 = 48 + d
  omega
theorem dec_digit : ∀ (k u : Nat), u ≤ k → ∀ c ∈ Lib.decDigits u, 48 ≤ c.toNat ∧ c.toNat ≤ 57
  | 0, u, hk, c, hc => by
    have hu : u < 10 := by omega
    rw [Lib.decDigits, dif_pos hu, List.mem_singleton] at hc
    rw [hc, digit_nat u hu]; omega
  | k + 1, u, hk, c, hc => by
    rw [Lib.decDigits] at hc
    split at hc
    · rename_i hu
      rw [List.mem_singleton] at hc
      rw [hc, digit_nat u hu]; omega
    · rcases List.mem_append.1 hc with hc | hc
      · exact dec_digit k (u / 10) (by omega) c hc
      · rw [List.mem_singleton] at hc
        rw [hc, digit_nat _ (by omega)]; omega
theorem dec_ne_nil (u : Nat) : Lib.decDigits u ≠ [] := by
  rw [Lib.decDigits]
  split <;> simp
theorem parse_append : ∀ (l r : List UInt8) (acc v : Nat), Lib.parseUint10 acc l = .ok v → Lib.parseUint10 acc (l ++ r) = Lib.parseUint10 v r
  | [], r, acc, v, h => by
    simp only [Lib.parseUint10] at h
    injection h with h
    rw [h]; rfl
  | c :: l, r, acc, v, h => by
    rw [List.cons_append]
    simp only [Lib.parseUint10] at h ⊢
    split at h
    · rename_i hd
      rw [if_pos hd]
      split at h
      · cases h
      · rename_i h1
        rw [if_neg h1]
        split at h
        · cases h
        · rename_i h2
          rw [if_neg h2]
          exact parse_append l r _ v h
    · cases h
theorem parse_one (acc d : Nat) (hd : d < 10) (h : acc * 10 + d ≤ 9223372036854775807) : Lib.parseUint10 acc [UInt8.ofNat (48 + d)] = .ok (acc * 10 + d) := by
  simp only [Lib.parseUint10, digit_nat d hd]
  rw [if_pos (by omega), if_neg (by omega), if_neg (by omega)]
  congr 1
  omega
theorem parse_dec : ∀ (k u : Nat), u ≤ k → u ≤ 9223372036854775807 → Lib.parseUint10 0 (Lib.decDigits u) = .ok u
  | 0, u, hk, h => by
    have hu : u < 10 := by omega
    rw [Lib.decDigits, dif_pos hu, parse_one 0 u hu (by omega)]
    simp
  | k + 1, u, hk, h => by
    rw [Lib.decDigits]
    split
    · rename_i hu
      rw [parse_one 0 u hu (by omega)]
      simp
    · rw [parse_append _ _ 0 _ (parse_dec k (u / 10) (by omega) (by omega)), parse_one _ _ (by omega) (by omega)]
      congr 1
      omega
theorem itoa_nat (n : Nat) : Lib.itoa (n : Int) = Lib.decDigits n := Lib.itoa_nonneg n
theorem atoi_dec (n : Nat) (hn : n ≤ 4611686018427387903) : Lib.atoiAll (Lib.decDigits n) = .ok (n : Int) := by
  cases h : Lib.decDigits n with
  | nil => exact absurd h (dec_ne_nil n)
  | cons c r =>
    have hc := dec_digit n n (Nat.le_refl _) c (by rw [h]; simp)
    rw [Lib.atoiAll_plain c r (by omega) (by omega), ← h]
    unfold Lib.parseMag
    rw [if_neg (dec_ne_nil n), parse_dec n n (Nat.le_refl _) (by omega)]
    simp only [Lib.signless]
    rw [if_neg (by omega)]
theorem decF_dec (n : Nat) (hn : n ≤ 4611686018427387903) : decF (Lib.decDigits n) = (n, 0) := by
  have := decF_yes (atoi_dec n hn) (by omega) (by omega) (itoa_nat n)
  simpa using this
theorem below_drewN' {B : Nat} {a w : World} (h : Below B a w) (n : Nat) : Below B a (w.drewN n) := h.trans ⟨rfl, rfl, rfl, Nat.le_refl _, fun _ _ => rfl⟩
theorem cut_any (l : List UInt8) (c : UInt8) (w : World) (hE : Env w) (hs : l.length ≤ 1000000000) :
    Calls Tryz.prog 78 #[.string (txt l), .string ⟨#[c]⟩] w fun e w' => e = .returned (.tuple #[.string (txt (Lib.cut l [c]).1), .string (txt (Lib.cut l [c]).2.1), .bool (Lib.cut l [c]).2.2]) ∧ Below w.heap.size w w' := by
  obtain ⟨m, hm⟩ := hE.most
  refine (Tryz.strings_Cut (txt l) ⟨#[c]⟩ m w (by rw [txt_size]; omega) hm).mono ?_
  rintro e w' ⟨rfl, q, rfl⟩
  refine ⟨?_, below_drewN' (Below.refl _ _) q⟩
  rw [txt_list]
  rfl
/-- What the start's variables hold. -/
structure EnvC (w : World) : Prop where
  tab : Lib.TabIs Tryz.prog w "internal/strconv.uint64pow10" .u64 Lib.pow10Tab
  errs : ErrVars w
  env : Env w
theorem EnvC.below {w w' : World} (h : EnvC w) (hb : Below w.heap.size w w') : EnvC w' := ⟨tab_below h.tab hb, errVars_below h.errs hb, h.env.below hb⟩
end Go.Proofs.YtkpiinjhcckhfaaGreatDoor
