/- Small facts: bytes of texts, strings, slices of bytes. -/
import Derived.Test.YtmjpejnpcmodgaaDoorV8
import Derived.Test.YtmjpejnpcmodgaaDoorShelf
import Derived.Test.YtmjpejnpcmodgaaDoorSub
import Derived.Test.YtmjpejnpcmodgaaDoorMid
import Derived.Deep.QuietTactic
import Derived.BigQuiet
import Derived.Laws.ResultCell
import Derived.Lib.Split
import Derived.Lib.SplitLaws
import Derived.Lib.IndexAny
import Derived.Laws.Cover1
namespace Go.Proofs.YtmjpejnpcmodgaaDoor
open Go.RowKit Plain
set_option linter.unusedVariables false
/-- What a digit is worth; below 0: it is none. -/
def nib (c : Nat) : Int := if 48 ≤ c ∧ c ≤ 57 then (c : Int) - 48 else if 97 ≤ c ∧ c ≤ 102 then (c : Int) - 87 else -1
theorem nib_le (c : Nat) : -1 ≤ nib c ∧ nib c ≤ 15 := by unfold nib; split <;> (try split) <;> omega
/-- A text's byte. -/
def at8 (s : ByteArray) (i : Nat) : Nat := (s.data.toList[i]?.getD 0).toNat
theorem at8_lt (s : ByteArray) (i : Nat) : at8 s i < 256 := UInt8.toNat_lt _
theorem index_text (s : ByteArray) (i : Nat) (h : i < s.size) (x : Int) (hx : x = (i : Int)) (w : World) : (Instr.index 9 (.string s) (.int .i64 x)).run Tryd.prog w = .ok (.int .u8 (at8 s i : Nat)) w := by
  subst hx
  rw [run_index_string w 9 s .i64 _ Tryd.underlying9, dif_pos (by omega)]
  have h1 : i < s.data.toList.length := by simpa using h
  have : at8 s i = (s[i]'h).toNat := by unfold at8; rw [List.getElem?_eq_getElem h1]; rfl
  rw [this]
  rfl
theorem or_shl (a b : Int) (ha : 0 ≤ a ∧ a ≤ 15) (hb : 0 ≤ b ∧ b ≤ 15) : bits .or .i64 (a * 16) b % 256 = 16 * a + b := by
  obtain ⟨m, rfl⟩ := Int.eq_ofNat_of_zero_le ha.1
  obtain ⟨n, rfl⟩ := Int.eq_ofNat_of_zero_le hb.1
  have key : ∀ x y : Fin 16, bits .or .i64 ((x.val : Int) * 16) (y.val : Int) % 256 = 16 * (x.val : Int) + (y.val : Int) := by decide +kernel
  exact key ⟨m, by omega⟩ ⟨n, by omega⟩
theorem slice_text (s : ByteArray) (lo hi : Nat) (h1 : lo ≤ hi) (h2 : hi ≤ s.size) (x : Int) (hx : x = (hi : Int)) (w : World) : (Instr.slice 9 (.string s) (some (.int .i64 (lo : Int))) (some (.int .i64 x)) none).run Tryd.prog w = .ok (.string (s.extract lo hi)) w := by
  subst hx
  have ht := Tryd.underlying9
  simp [Instr.slice, run_underlying ht, Instr.sliceBounds, run_sliceBound, h1, h2]
/-- A text's bytes in a new row. -/
def numsOf (s : ByteArray) : List Int := s.data.toList.map fun c => (c.toNat : Int)
theorem numsOf_bytes (s : ByteArray) : ∀ x ∈ numsOf s, 0 ≤ x ∧ x ≤ 255 := by
  intro x hx
  obtain ⟨c, -, rfl⟩ := List.mem_map.1 hx
  have := c.toNat_lt
  omega
theorem range_of_mem {xs : List Int} (h : ∀ x ∈ xs, 0 ≤ x ∧ x ≤ 255) (j : Nat) : 0 ≤ xs[j]?.getD 0 ∧ xs[j]?.getD 0 ≤ 255 := by
  by_cases hj : j < xs.length
  · rw [List.getElem?_eq_getElem hj]; exact h _ (List.getElem_mem hj)
  · rw [List.getElem?_eq_none (by omega)]; simp
theorem numsOf_length (s : ByteArray) : (numsOf s).length = s.size := by unfold numsOf; rw [List.length_map]; rfl
theorem bytes_new (w : World) (s : ByteArray) (hs : s.size ≤ 9223372036854775807) : Bytes (Lib.bytesWorld w 5 s) (some ⟨w.heap.size, 0, none⟩) s.size (numsOf s) := by
  refine ⟨numsOf_length s, hs, range_of_mem (numsOf_bytes s), .inr ⟨_, _, rfl, fun j hj => ?_⟩⟩
  rw [Nat.zero_add, Lib.bytesWorld_cell w 5 s j hj]
  unfold numsOf
  have hj' : j < s.data.toList.length := by simpa using hj
  rw [List.getElem?_map, List.getElem?_eq_getElem hj', List.getD_eq_getElem?_getD, List.getElem?_eq_getElem hj']
  rfl
theorem conv_bytes (w : World) (s : ByteArray) : ∃ c, s.size ≤ c ∧ (convert 9 42 (.string s)).run Tryd.prog w = .ok (.slice (some ⟨w.heap.size, 0, none⟩) s.size c) (Lib.bytesWorld w 5 s) := by
  have hge := grownCap_ge w s.size 0 5
  exact ⟨_, hge, Lib.run_convert_string_bytes w 9 42 5 s Tryd.underlying9 Tryd.underlying42 Tryd.underlying5⟩
theorem nums_str (xs : List Int) (h : ∀ x ∈ xs, 0 ≤ x ∧ x ≤ 255) : numsOf (strOfNums xs) = xs := by
  unfold numsOf
  rw [strOfNums_data, List.map_map]
  conv => rhs; rw [← List.map_id xs]
  apply List.map_congr_left
  intro x hx
  have := h x hx
  simp
  omega
theorem str_nums (s : ByteArray) : strOfNums (numsOf s) = s := by
  have h : (strOfNums (numsOf s)).data.toList = s.data.toList := by
    rw [strOfNums_data]
    unfold numsOf
    rw [List.map_map]
    conv => rhs; rw [← List.map_id s.data.toList]
    apply List.map_congr_left
    intro x hx
    simp
  have h2 : (strOfNums (numsOf s)).data = s.data := Array.toList_inj.1 h
  cases s
  cases hs : strOfNums (numsOf _)
  rw [hs] at h2
  simp only at h2
  rw [h2]
theorem str_eql (a b : ByteArray) (w : World) : (binOp .eql 9 (.string a) (.string b)).run Tryd.prog w = .ok (.bool (a.data.toList == b.data.toList)) w := by
  rw [binOp_string_eql, Lib.toList_data, Lib.toList_data]
  rfl
theorem guard_ne (x y : Operand) (s t : ByteArray) (W : World) : (eqGuard .neq 9 x y (.string s) (.string t)).run Tryd.prog W = .ok () W := by simp [eqGuard]
theorem guard_eq (x y : Operand) (s t : ByteArray) (W : World) : (eqGuard .eql 9 x y (.string s) (.string t)).run Tryd.prog W = .ok () W := by simp [eqGuard]
theorem guard_geq2 (x y : Operand) (s t : ByteArray) (W : World) : (eqGuard .geq 9 x y (.string s) (.string t)).run Tryd.prog W = .ok () W := by simp [eqGuard]
theorem wpList_eql {P : Program} {w : World} {ops : Array Oper} {rest : List Oper} {o : Oper} {a : Act} {Q : Exit → Act → World → Prop} (hw : Region.wanted o (yielded ops a.tmps) = true) (b : BinOp) (ty : TypeId) (x y : Operand) (tz : TypeId) (ho : o.op = .binOp b ty x y tz)
    (u1 u2 : Value) (h1 : a.eval x = u1) (h2 : a.eval y = u2) (v : Value) (hg : ∀ W, (eqGuard b ty x y u1 u2).run P W = .ok () W) (hr : ∀ W, (binOp b ty u1 u2).run P W = .ok v W) (h : wpList P ops Q rest (a.put o.dst v) w) : wpList P ops Q (o :: rest) a w := by
  refine wpList_step ?_
  intro K hK
  rw [if_pos hw]
  unfold Oper.wp execOp
  simp only [ho, h1, h2, Sem.run_bind, hg, hr, Result.andThen_ok]
  exact hK _ _ h
theorem ne_str (a b : ByteArray) (e : Bool) (h : (a.toList == b.toList) = e) (W : World) : (binOp .neq 9 (.string a) (.string b)).run Tryd.prog W = .ok (.bool (!e)) W := by
  rw [binOp_string_neq, h]; rfl
def txt (l : List UInt8) : ByteArray := ⟨l.toArray⟩
theorem txt_list (l : List UInt8) : (txt l).data.toList = l := by simp [txt]
theorem txt_size (l : List UInt8) : (txt l).size = l.length := by rw [Lib.size_eq, txt_list]
theorem txt_of (s : ByteArray) : txt s.data.toList = s := by cases s; simp [txt]
theorem add_str (a b : ByteArray) (h : a.size + b.size ≤ 1000000000) (W : World) : (Op.stringOp .add a b).run Tryd.prog W = .ok (.string (a ++ b)) W := run_string_add_sum W a b (by omega)
theorem at8_txt (l : List UInt8) (i : Nat) : at8 (txt l) i = (l[i]?.getD 0).toNat := by unfold at8; rw [txt_list]
theorem bytes_ext {a b : ByteArray} (h : a.data.toList = b.data.toList) : a = b := by
  cases a; cases b
  simp only at h
  rw [Array.toList_inj.1 h]
theorem extract_list (s : ByteArray) (i : Nat) : (s.extract 0 i).data.toList = s.data.toList.take i := by
  simp [ByteArray.data_extract]
theorem slice_txt (l : List UInt8) (lo hi : Nat) (h1 : lo ≤ hi) (h2 : hi ≤ l.length) (y x : Int) (hy : y = (lo : Int)) (hx : x = (hi : Int)) (w : World) : (Instr.slice 9 (.string (txt l)) (some (.int .i64 y)) (some (.int .i64 x)) none).run Tryd.prog w = .ok (.string (txt ((l.drop lo).take (hi - lo)))) w := by
  subst hx hy
  have ht := Tryd.underlying9
  have h3 : hi ≤ (txt l).size := by rw [txt_size]; exact h2
  have e : (txt l).extract lo hi = txt ((l.drop lo).take (hi - lo)) := by
    apply ByteArray.ext
    apply Array.toList_inj.1
    rw [txt_list]
    simp [txt, List.extract_eq_take_drop]
  simp [Instr.slice, run_underlying ht, Instr.sliceBounds, run_sliceBound, h1, h3, e]
theorem at8_get (l : List UInt8) (i : Nat) (c : UInt8) (h : i < l.length) : l[i]? = some c ↔ at8 (txt l) i = c.toNat := by
  rw [at8_txt, List.getElem?_eq_getElem h, Option.getD_some, Option.some_inj]
  exact ⟨fun e => by rw [e], fun e => UInt8.toNat_inj.1 e⟩
theorem eq_self (s : ByteArray) (W : World) : (binOp .eql 9 (.string s) (.string s)).run Tryd.prog W = .ok (.bool true) W := by
  rw [str_eql, beq_self_eq_true]
theorem yieldsIf_conv {P : Program} {ops : Array Oper} {S : World → Prop} {op : Oper} {a : Act} (hw : Region.wanted op (yielded ops a.tmps) = true) (t1 t2 : TypeId) (x : Operand) (ho : op.op = .convert t1 t2 x)
    (u : Value) (h1 : a.eval x = u) (v : Value) (hr : ∀ W, S W → (convert t1 t2 u).run P W = .ok v W) : YieldsIf P ops S op v a := by
  refine .inl ⟨hw, fun W hS => ?_⟩
  unfold execOp
  simp [ho, h1, hr W hS]
end Go.Proofs.YtmjpejnpcmodgaaDoor
