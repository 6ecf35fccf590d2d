/- Persons, plainly; strings put together. -/
import Derived.Test.YtindmggmblmmcaaGreatDoorChWrite
namespace Go.Proofs.YtindmggmblmmcaaGreatDoor
open Go.RowKit Plain
set_option linter.unusedVariables false
set_option linter.unusedSimpArgs false
structure WX where
  n : ByteArray
  m : ByteArray
  t : Int
  z : ByteArray
def whoL (x : WX) : List Value := [.string x.n, .string x.m, .int .i64 x.t, .string x.z]
def whoA (x : WX) : Array Value := #[.string x.n, .string x.m, .int .i64 x.t, .string x.z]
def wzero : WX := ⟨⟨#[]⟩, ⟨#[]⟩, 0, ⟨#[]⟩⟩
def noAny (cs l : List UInt8) : Bool := !l.any fun b => cs.contains b
theorem containsAny_has (cs l : List UInt8) : Lib.containsAny l cs = l.any fun b => cs.contains b := by
  unfold Lib.containsAny
  induction l with
  | nil => rfl
  | cons b l ih =>
    have hge := Lib.indexAny_ge cs l
    unfold Lib.indexAny
    rw [List.any_cons, ← ih]
    cases h : cs.contains b
    · simp only [Bool.false_eq_true, if_false, Bool.false_or]
      split
      · rename_i e
        rw [beq_iff_eq.1 e]
      · rename_i e
        have : Lib.indexAny l cs ≠ -1 := fun e2 => e (beq_iff_eq.2 e2)
        rw [decide_eq_decide]
        omega
    · simp
def digB (b : UInt8) : Bool := decide (48 ≤ b.toNat) && decide (b.toNat ≤ 57)
def zoneB (l : List UInt8) : Bool := decide (l.length = 5) && (l[0]?.getD 0 == 43 || l[0]?.getD 0 == 45) && (l.drop 1).all digB
def badW : List UInt8 := [60, 62, 10]
def whoB (x : WX) : Bool := noAny badW (x.n.data.toList ++ x.m.data.toList) && decide (0 ≤ x.t) && decide (x.t ≤ 4611686018427387903) && zoneB x.z.data.toList
def whoT (x : WX) : List UInt8 := x.n.data.toList ++ [32, 60] ++ x.m.data.toList ++ [62, 32] ++ Lib.itoa x.t ++ [32] ++ x.z.data.toList
/-- What a text tells, part by part. -/
def personR (l : List UInt8) : Option WX :=
  if (Lib.cut l [32, 60]).2.2 = true then
    (if (Lib.cut (Lib.cut l [32, 60]).2.1 [62, 32]).2.2 = true then
      (if (Lib.cut (Lib.cut (Lib.cut l [32, 60]).2.1 [62, 32]).2.1 [32]).2.2 = true ∧ (decF (Lib.cut (Lib.cut (Lib.cut l [32, 60]).2.1 [62, 32]).2.1 [32]).1).2 = 0 then
        some ⟨txt (Lib.cut l [32, 60]).1, txt (Lib.cut (Lib.cut l [32, 60]).2.1 [62, 32]).1, ((decF (Lib.cut (Lib.cut (Lib.cut l [32, 60]).2.1 [62, 32]).2.1 [32]).1).1 : Nat), txt (Lib.cut (Lib.cut (Lib.cut l [32, 60]).2.1 [62, 32]).2.1 [32]).2.1⟩
      else none) else none) else none
def personE (l : List UInt8) : WX × Nat := match personR l with
  | some x => if whoB x = true then (x, 0) else (wzero, 4)
  | none => (wzero, 4)
theorem guard_addn (x y : Operand) (s t : ByteArray) (W : World) : (eqGuard .add 9 x y (.string s) (.string t)).run Tryz.prog W = .ok () W := by simp [eqGuard]
theorem add_txt (a b : ByteArray) (l : List UInt8) (h : a.data.toList ++ b.data.toList = l) (hs : a.size + b.size ≤ 1000000000) (W : World) : (binOp .add 9 (.string a) (.string b)).run Tryz.prog W = .ok (.string (txt l)) W := by
  have h1 := add_str a b hs W
  have h2 : (binOp .add 9 (.string a) (.string b)).run Tryz.prog W = .ok (.string (a ++ b)) W := by simpa [binOp, run_underlying Tryz.underlying9] using h1
  have e : a ++ b = txt l := bytes_ext (by rw [txt_list, ← h, ByteArray.data_append, Array.toList_append])
  rw [h2, e]
theorem slice_tail (s : ByteArray) (lo : Nat) (h : lo ≤ s.size) (x : Int) (hx : x = (lo : Int)) (W : World) : (Instr.slice 9 (.string s) (some (.int .i64 x)) none none).run Tryz.prog W = .ok (.string (s.extract lo s.size)) W := by
  subst hx
  have ht := Tryz.underlying9
  simp [Instr.slice, run_underlying ht, Instr.sliceBounds, run_sliceBound, h]
theorem tail_of (s : ByteArray) (k : Nat) : (s.extract k s.size).data.toList = s.data.toList.drop k := by
  rw [ByteArray.data_extract, Array.toList_extract, List.extract_eq_take_drop, List.take_of_length_le (by rw [List.length_drop, Lib.size_eq]; exact Nat.le_refl _)]
theorem cutS_any (l sep : List UInt8) (w : World) (hE : Env w) (hs : l.length ≤ 1000000000) :
    Calls Tryz.prog 70 #[.string (txt l), .string (txt sep)] w fun e w' => e = .returned (.tuple #[.string (txt (Lib.cut l sep).1), .string (txt (Lib.cut l sep).2.1), .bool (Lib.cut l sep).2.2]) ∧ Below w.heap.size w w' := by
  obtain ⟨m, hm⟩ := hE.most
  refine (Tryz.strings_Cut (txt l) (txt sep) m w (by rw [txt_size]; omega) hm).mono ?_
  rintro e w' ⟨rfl, q, rfl⟩
  refine ⟨?_, below_drewN' (Below.refl _ _) q⟩
  rw [txt_list, txt_list]
  rfl
theorem cutS_len (l sep : List UInt8) : (Lib.cut l sep).1.length ≤ l.length ∧ (Lib.cut l sep).2.1.length ≤ l.length := by
  unfold Lib.cut
  split
  · refine ⟨?_, ?_⟩
    · show (l.take _).length ≤ _
      rw [List.length_take]; omega
    · show (l.drop _).length ≤ _
      rw [List.length_drop]; omega
  · exact ⟨Nat.le_refl _, Nat.zero_le _⟩
theorem yieldsIf_load_str {P : Program} {ops : Array Oper} {S : World → Prop} {op : Oper} {a : Act} (hw : Region.wanted op (yielded ops a.tmps) = true) (ty : TypeId) (x : Operand) (ho : op.op = .load ty x)
    (b o : Nat) (hx : a.eval x = .pointer (some ⟨b, o, none⟩)) (s : ByteArray) (hS : ∀ w, S w → w.cell? ⟨b, o, none⟩ = some (.string s)) (hu : P.underlying ty = some .string) : YieldsIf P ops S op (.string s) a :=
  .inl ⟨hw, fun W hW => by
    have hc := hS W hW
    unfold execOp
    simp only [ho, hx]
    simp [Instr.loadAt, Instr.sureAddr, loadVar, isAgg, run_underlying hu, hc]⟩
theorem yieldsIf_load_int {P : Program} {ops : Array Oper} {S : World → Prop} {op : Oper} {a : Act} (hw : Region.wanted op (yielded ops a.tmps) = true) (ty : TypeId) (x : Operand) (ho : op.op = .load ty x)
    (b o : Nat) (hx : a.eval x = .pointer (some ⟨b, o, none⟩)) (z : Int) (hS : ∀ w, S w → w.cell? ⟨b, o, none⟩ = some (.int .i64 z)) (hu : P.underlying ty = some (.int .i64)) : YieldsIf P ops S op (.int .i64 z) a :=
  .inl ⟨hw, fun W hW => by
    have hc := hS W hW
    unfold execOp
    simp only [ho, hx]
    simp [Instr.loadAt, Instr.sureAddr, loadVar, isAgg, run_underlying hu, hc]⟩
theorem yieldsIf_load_sl {P : Program} {ops : Array Oper} {S : World → Prop} {op : Oper} {a : Act} (hw : Region.wanted op (yielded ops a.tmps) = true) (ty : TypeId) (x : Operand) (ho : op.op = .load ty x)
    (b o : Nat) (hx : a.eval x = .pointer (some ⟨b, o, none⟩)) (v : Value) (hS : ∀ w, S w → w.cell? ⟨b, o, none⟩ = some v) {e : TypeId} (hu : P.underlying ty = some (.slice e)) : YieldsIf P ops S op v a :=
  .inl ⟨hw, fun W hW => by
    have hc := hS W hW
    unfold execOp
    simp only [ho, hx]
    simp [Instr.loadAt, Instr.sureAddr, loadVar, isAgg, run_underlying hu, hc]⟩
theorem yieldsIf_eql {P : Program} {ops : Array Oper} {S : World → Prop} {op : Oper} {a : Act} (hw : Region.wanted op (yielded ops a.tmps) = true) (b : BinOp) (ty : TypeId) (x y : Operand) (tz : TypeId) (ho : op.op = .binOp b ty x y tz)
    (u1 u2 : Value) (h1 : a.eval x = u1) (h2 : a.eval y = u2) (v : Value) (hg : ∀ W, (eqGuard b ty x y u1 u2).run P W = .ok () W) (hr : ∀ W, (binOp b ty u1 u2).run P W = .ok v W) : YieldsIf P ops S op v a := by
  refine .inl ⟨hw, fun W hS => ?_⟩
  unfold execOp
  simp only [ho, h1, h2, Sem.run_bind, hg, hr, Result.andThen_ok]
  rfl
theorem yieldsIf_build {P : Program} {ops : Array Oper} {S : World → Prop} {op : Oper} {a : Act} (hw : Region.wanted op (yielded ops a.tmps) = true) (ty : TypeId) (ps : Array (Nat × Operand)) (ho : op.op = .build ty ps)
    (qs : Array (Nat × Value)) (hq : (ps.map fun (i, x) => (i, a.eval x)) = qs) (v : Value) (hr : ∀ W, (Instr.build ty qs).run P W = .ok v W) : YieldsIf P ops S op v a :=
  .inl ⟨hw, fun W _ => by
    unfold execOp
    simp only [ho, Sem.run_bind, hq, hr, Result.andThen_ok]
    rfl⟩
theorem wpList_buildQ {P : Program} {w : World} {ops : Array Oper} {rest : List Oper} {o : Oper} {a : Act} {Q : Exit → Act → World → Prop} (hw : Region.wanted o (yielded ops a.tmps) = true) (ty : TypeId) (ps : Array (Nat × Operand)) (ho : o.op = .build ty ps)
    (qs : Array (Nat × Value)) (hq : (ps.map fun (i, x) => (i, a.eval x)) = qs) (v : Value) (hr : ∀ W, (Instr.build ty qs).run P W = .ok v W) (h : wpList P ops Q rest (a.put o.dst v) w) : wpList P ops Q (o :: rest) a w := by
  refine wpList_step ?_
  intro K hK
  rw [if_pos hw]
  unfold Oper.wp execOp
  simp only [ho, Sem.run_bind, hq, hr, Result.andThen_ok]
  exact hK _ _ h
theorem neq_self (s : ByteArray) (W : World) : (binOp .neq 9 (.string s) (.string s)).run Tryz.prog W = .ok (.bool false) W := by
  rw [binOp_string_neq]
  simp
theorem nDigits_le (u : Nat) (h : u < 18446744073709551616) : Lib.nDigits u ≤ 20 := by
  by_cases h0 : u = 0
  · subst h0; rw [Lib.nDigits_small (by omega)]; omega
  · obtain ⟨h1, h2⟩ := Lib.numDigits_eq u (by omega) h
    rw [← h1]
    split <;> omega
theorem itoa_len (n : Int) (h : -9223372036854775808 ≤ n ∧ n ≤ 9223372036854775807) : (Lib.itoa n).length ≤ 21 := by
  unfold Lib.itoa
  split
  · rw [List.length_cons, Lib.decDigits_length]
    have := nDigits_le n.natAbs (by omega)
    omega
  · rw [Lib.decDigits_length]
    have := nDigits_le n.toNat (by omega)
    omega
theorem map_two (a : Act) (x y : Operand) (u v : Value) (h1 : a.eval x = u) (h2 : a.eval y = v) : (#[(0, x), (1, y)] : Array (Nat × Operand)).map (fun (i, x) => (i, a.eval x)) = #[(0, u), (1, v)] := by simp [h1, h2]
theorem map_three (a : Act) (x y z : Operand) (u v t : Value) (h1 : a.eval x = u) (h2 : a.eval y = v) (h3 : a.eval z = t) : (#[(0, x), (1, y), (2, z)] : Array (Nat × Operand)).map (fun (i, x) => (i, a.eval x)) = #[(0, u), (1, v), (2, t)] := by simp [h1, h2, h3]
theorem wpList_slice {P : Program} {w : World} {ops : Array Oper} {rest : List Oper} {o : Oper} {a : Act} {Q : Exit → Act → World → Prop} (hw : Region.wanted o (yielded ops a.tmps) = true) (ty : TypeId) (len : Nat) (ps : Array (Nat × Operand)) (ho : o.op = .buildSlice ty len ps)
    (qs : Array (Nat × Value)) (hq : (ps.map fun (i, x) => (i, a.eval x)) = qs) (v : Value) (w' : World) (hr : (Instr.buildSlice ty len qs).run P w = .ok v w') (h : wpList P ops Q rest (a.put o.dst v) w') : wpList P ops Q (o :: rest) a w := by
  refine wpList_step ?_
  intro K hK
  rw [if_pos hw]
  unfold Oper.wp execOp
  simp only [ho, Sem.run_bind, hq, hr, Result.andThen_ok]
  exact hK _ _ h
theorem step_slice {P : Program} {w : World} {ops : Array Oper} {o : Oper} {a : Act} {K : Act → World → Prop} {Q : Exit → Act → World → Prop} {E : Prop} (hw : Region.wanted o (yielded ops a.tmps) = true) (ty : TypeId) (len : Nat) (ps : Array (Nat × Operand)) (ho : o.op = .buildSlice ty len ps)
    (qs : Array (Nat × Value)) (hq : (ps.map fun (i, x) => (i, a.eval x)) = qs) (v : Value) (w' : World) (hr : (Instr.buildSlice ty len qs).run P w = .ok v w') (h : K (a.put o.dst v) w') : if Region.wanted o (yielded ops a.tmps) = true then Oper.wp P o a w K Q else E := by
  rw [if_pos hw]
  unfold Oper.wp execOp
  simp only [ho, Sem.run_bind, hq, hr, Result.andThen_ok]
  exact h
theorem map_one (a : Act) (x : Operand) (v : Value) (h : a.eval x = v) : (#[(0, x)] : Array (Nat × Operand)).map (fun (i, x) => (i, a.eval x)) = #[(0, v)] := by simp [h]
end Go.Proofs.YtindmggmblmmcaaGreatDoor
