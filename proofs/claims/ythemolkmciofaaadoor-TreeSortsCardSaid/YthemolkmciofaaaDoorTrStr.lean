/- Strings: comparisons in regions, texts as lists of bytes. -/
import Derived.Test.YthemolkmciofaaaDoorTrOct
import Derived.Lib.SplitLaws
namespace Go.Proofs.YthemolkmciofaaaDoor
open Go.RowKit Plain
set_option linter.unusedVariables false
theorem guard_ne (x y : Operand) (s t : ByteArray) (W : World) : (eqGuard .neq 9 x y (.string s) (.string t)).run Tryd.prog W = .ok () W := by simp [eqGuard]
theorem guard_eq (x y : Operand) (s t : ByteArray) (W : World) : (eqGuard .eql 9 x y (.string s) (.string t)).run Tryd.prog W = .ok () W := by simp [eqGuard]
theorem guard_geq2 (x y : Operand) (s t : ByteArray) (W : World) : (eqGuard .geq 9 x y (.string s) (.string t)).run Tryd.prog W = .ok () W := by simp [eqGuard]
theorem wpList_eql {P : Program} {w : World} {ops : Array Oper} {rest : List Oper} {o : Oper} {a : Act} {Q : Exit → Act → World → Prop} (hw : Region.wanted o (yielded ops a.tmps) = true) (b : BinOp) (ty : TypeId) (x y : Operand) (tz : TypeId) (ho : o.op = .binOp b ty x y tz)
    (u1 u2 : Value) (h1 : a.eval x = u1) (h2 : a.eval y = u2) (v : Value) (hg : ∀ W, (eqGuard b ty x y u1 u2).run P W = .ok () W) (hr : ∀ W, (binOp b ty u1 u2).run P W = .ok v W) (h : wpList P ops Q rest (a.put o.dst v) w) : wpList P ops Q (o :: rest) a w := by
  refine wpList_step ?_
  intro K hK
  rw [if_pos hw]
  unfold Oper.wp execOp
  simp only [ho, h1, h2, Sem.run_bind, hg, hr, Result.andThen_ok]
  exact hK _ _ h
theorem ne_str (a b : ByteArray) (e : Bool) (h : (a.toList == b.toList) = e) (W : World) : (binOp .neq 9 (.string a) (.string b)).run Tryd.prog W = .ok (.bool (!e)) W := by
  rw [binOp_string_neq, h]; rfl
def txt (l : List UInt8) : ByteArray := ⟨l.toArray⟩
theorem txt_list (l : List UInt8) : (txt l).data.toList = l := by simp [txt]
theorem txt_size (l : List UInt8) : (txt l).size = l.length := by rw [Lib.size_eq, txt_list]
theorem txt_of (s : ByteArray) : txt s.data.toList = s := by cases s; simp [txt]
theorem add_str (a b : ByteArray) (h : a.size + b.size ≤ 1000000000) (W : World) : (Op.stringOp .add a b).run Tryd.prog W = .ok (.string (a ++ b)) W := run_string_add_sum W a b (by omega)
theorem at8_txt (l : List UInt8) (i : Nat) : at8 (txt l) i = (l[i]?.getD 0).toNat := by unfold at8; rw [txt_list]
theorem bytes_ext {a b : ByteArray} (h : a.data.toList = b.data.toList) : a = b := by
  cases a; cases b
  simp only at h
  rw [Array.toList_inj.1 h]
theorem extract_list (s : ByteArray) (i : Nat) : (s.extract 0 i).data.toList = s.data.toList.take i := by
  simp [ByteArray.data_extract]
theorem slice_txt (l : List UInt8) (lo hi : Nat) (h1 : lo ≤ hi) (h2 : hi ≤ l.length) (y x : Int) (hy : y = (lo : Int)) (hx : x = (hi : Int)) (w : World) : (Instr.slice 9 (.string (txt l)) (some (.int .i64 y)) (some (.int .i64 x)) none).run Tryd.prog w = .ok (.string (txt ((l.drop lo).take (hi - lo)))) w := by
  subst hx hy
  have ht := Tryd.underlying9
  have h3 : hi ≤ (txt l).size := by rw [txt_size]; exact h2
  have e : (txt l).extract lo hi = txt ((l.drop lo).take (hi - lo)) := by
    apply ByteArray.ext
    apply Array.toList_inj.1
    rw [txt_list]
    simp [txt, List.extract_eq_take_drop]
  simp [Instr.slice, run_underlying ht, Instr.sliceBounds, run_sliceBound, h1, h3, e]
theorem at8_get (l : List UInt8) (i : Nat) (c : UInt8) (h : i < l.length) : l[i]? = some c ↔ at8 (txt l) i = c.toNat := by
  rw [at8_txt, List.getElem?_eq_getElem h, Option.getD_some, Option.some_inj]
  exact ⟨fun e => by rw [e], fun e => UInt8.toNat_inj.1 e⟩
theorem eq_self (s : ByteArray) (W : World) : (binOp .eql 9 (.string s) (.string s)).run Tryd.prog W = .ok (.bool true) W := by
  rw [str_eql, beq_self_eq_true]
theorem yieldsIf_conv {P : Program} {ops : Array Oper} {S : World → Prop} {op : Oper} {a : Act} (hw : Region.wanted op (yielded ops a.tmps) = true) (t1 t2 : TypeId) (x : Operand) (ho : op.op = .convert t1 t2 x)
    (u : Value) (h1 : a.eval x = u) (v : Value) (hr : ∀ W, S W → (convert t1 t2 u).run P W = .ok v W) : YieldsIf P ops S op v a := by
  refine .inl ⟨hw, fun W hS => ?_⟩
  unfold execOp
  simp [ho, h1, hr W hS]
end Go.Proofs.YthemolkmciofaaaDoor
