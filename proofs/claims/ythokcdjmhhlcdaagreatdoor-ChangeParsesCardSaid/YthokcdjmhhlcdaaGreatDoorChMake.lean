/- Changes made: whole, of pieces; rows of one. -/
import Derived.Test.YthokcdjmhhlcdaaGreatDoorChPrint
import Derived.Test.YthokcdjmhhlcdaaGreatDoorChOpen
import Derived.Test.YthokcdjmhhlcdaaGreatDoorChParse
import Derived.Test.YthokcdjmhhlcdaaGreatDoorChRead3
namespace Go.Proofs.YthokcdjmhhlcdaaGreatDoor
open Go.RowKit Plain Go.ChangeShapes Go.WideShapes Go.ChangeAt Go.Great
set_option linter.unusedVariables false
theorem list20 {xs : List Int} (h : xs.length = 20) : ∃ a0 a1 a2 a3 a4 a5 a6 a7 a8 a9 a10 a11 a12 a13 a14 a15 a16 a17 a18 a19 : Int, xs = [a0, a1, a2, a3, a4, a5, a6, a7, a8, a9, a10, a11, a12, a13, a14, a15, a16, a17, a18, a19] := by
  match xs, h with
  | [a0, a1, a2, a3, a4, a5, a6, a7, a8, a9, a10, a11, a12, a13, a14, a15, a16, a17, a18, a19], _ => exact ⟨a0, a1, a2, a3, a4, a5, a6, a7, a8, a9, a10, a11, a12, a13, a14, a15, a16, a17, a18, a19, rfl⟩
theorem built_ch (u d : ByteArray) (t z a0 a1 a2 a3 a4 a5 a6 a7 a8 a9 a10 a11 a12 a13 a14 a15 a16 a17 a18 a19 : Int) : Tryz.prog.built 30 [(0, .agg #[.int .u8 a0, .int .u8 a1, .int .u8 a2, .int .u8 a3, .int .u8 a4, .int .u8 a5, .int .u8 a6, .int .u8 a7, .int .u8 a8, .int .u8 a9, .int .u8 a10, .int .u8 a11, .int .u8 a12, .int .u8 a13, .int .u8 a14, .int .u8 a15, .int .u8 a16, .int .u8 a17, .int .u8 a18, .int .u8 a19]), (1, .string u), (2, .int .i64 t), (3, .int .i64 z), (6, .string d)] = some (chA ⟨[a0, a1, a2, a3, a4, a5, a6, a7, a8, a9, a10, a11, a12, a13, a14, a15, a16, a17, a18, a19], u, t, z, [], [], d⟩ (.slice none 0 0) (.slice none 0 0)) := by kernel_rfl
theorem built_rch (u d : ByteArray) (t z a0 a1 a2 a3 a4 a5 a6 a7 a8 a9 a10 a11 a12 a13 a14 a15 a16 a17 a18 a19 : Int) : Tryz.prog.built 26 [(0, .agg #[.int .u8 a0, .int .u8 a1, .int .u8 a2, .int .u8 a3, .int .u8 a4, .int .u8 a5, .int .u8 a6, .int .u8 a7, .int .u8 a8, .int .u8 a9, .int .u8 a10, .int .u8 a11, .int .u8 a12, .int .u8 a13, .int .u8 a14, .int .u8 a15, .int .u8 a16, .int .u8 a17, .int .u8 a18, .int .u8 a19]), (1, .string u), (2, .int .i64 t), (3, .int .i64 z), (6, .string d)] = some (chA ⟨[a0, a1, a2, a3, a4, a5, a6, a7, a8, a9, a10, a11, a12, a13, a14, a15, a16, a17, a18, a19], u, t, z, [], [], d⟩ (.slice none 0 0) (.slice none 0 0)) := by kernel_rfl
theorem build_ch (c : CX) (h : c.n.length = 20) (W : World) : (Instr.build 30 #[(0, .agg (V8 c.n)), (1, .string c.u), (2, .int .i64 c.t), (3, .int .i64 c.z), (6, .string c.d)]).run Tryz.prog W = .ok (.agg (chA c (.slice none 0 0) (.slice none 0 0))) W := by
  obtain ⟨n, u, t, z, xs, fs, d⟩ := c
  obtain ⟨a0, a1, a2, a3, a4, a5, a6, a7, a8, a9, a10, a11, a12, a13, a14, a15, a16, a17, a18, a19, rfl⟩ := list20 h
  exact run_build W _ _ _ (built_ch u d t z a0 a1 a2 a3 a4 a5 a6 a7 a8 a9 a10 a11 a12 a13 a14 a15 a16 a17 a18 a19)
theorem build_rch (c : CX) (h : c.n.length = 20) (W : World) : (Instr.build 26 #[(0, .agg (V8 c.n)), (1, .string c.u), (2, .int .i64 c.t), (3, .int .i64 c.z), (6, .string c.d)]).run Tryz.prog W = .ok (.agg (chA c (.slice none 0 0) (.slice none 0 0))) W := by
  obtain ⟨n, u, t, z, xs, fs, d⟩ := c
  obtain ⟨a0, a1, a2, a3, a4, a5, a6, a7, a8, a9, a10, a11, a12, a13, a14, a15, a16, a17, a18, a19, rfl⟩ := list20 h
  exact run_build W _ _ _ (built_rch u d t z a0 a1 a2 a3 a4 a5 a6 a7 a8 a9 a10 a11 a12 a13 a14 a15 a16 a17 a18 a19)
theorem built_chC (c : CX) (h : c.n.length = 20) : Tryz.prog.built 30 [(0, .agg (V8 c.n)), (1, .string c.u), (2, .int .i64 c.t), (3, .int .i64 c.z), (6, .string c.d)] = some (chA c (.slice none 0 0) (.slice none 0 0)) := by
  obtain ⟨n, u, t, z, xs, fs, d⟩ := c
  obtain ⟨a0, a1, a2, a3, a4, a5, a6, a7, a8, a9, a10, a11, a12, a13, a14, a15, a16, a17, a18, a19, rfl⟩ := list20 h
  exact built_ch u d t z a0 a1 a2 a3 a4 a5 a6 a7 a8 a9 a10 a11 a12 a13 a14 a15 a16 a17 a18 a19
theorem built_rchC (c : CX) (h : c.n.length = 20) : Tryz.prog.built 26 [(0, .agg (V8 c.n)), (1, .string c.u), (2, .int .i64 c.t), (3, .int .i64 c.z), (6, .string c.d)] = some (chA c (.slice none 0 0) (.slice none 0 0)) := by
  obtain ⟨n, u, t, z, xs, fs, d⟩ := c
  obtain ⟨a0, a1, a2, a3, a4, a5, a6, a7, a8, a9, a10, a11, a12, a13, a14, a15, a16, a17, a18, a19, rfl⟩ := list20 h
  exact built_rch u d t z a0 a1 a2 a3 a4 a5 a6 a7 a8 a9 a10 a11 a12 a13 a14 a15 a16 a17 a18 a19
theorem zero_rch (W : World) : (zeroValue 26).run Tryz.prog W = .ok (.agg (chA czero (.slice none 0 0) (.slice none 0 0))) W := by kernel_rfl
theorem zero_rext (W : World) : (zeroValue 47).run Tryz.prog W = .ok (.agg #[.string ⟨#[]⟩, .string ⟨#[]⟩]) W := by kernel_rfl
theorem info_rext (x : ByteArray × ByteArray) : (Tryz.prog.info? 47).map (·.size) = some (extE x).length := by show _ = some 2; kernel_rfl
theorem info_rextA (x : ByteArray × ByteArray) : (Tryz.prog.info? 47).map (·.size) = some (extE x).toArray.size := by show _ = some 2; kernel_rfl
theorem info_chA (c : CX) (xv fv : Value) (h : c.n.length = 20) : (Tryz.prog.info? 30).map (·.size) = some (chA c xv fv).size := by rw [chA_size c xv fv h]; kernel_rfl
theorem info_rchA (c : CX) (xv fv : Value) (h : c.n.length = 20) : (Tryz.prog.info? 26).map (·.size) = some (chA c xv fv).size := by rw [chA_size c xv fv h]; kernel_rfl
theorem id20_infoL : ∀ xs : List Int, xs.length = 20 → (Tryz.prog.info? 22).map (·.size) = some (U8 xs).length := fun xs h => by rw [U8_length, h]; kernel_rfl
theorem slice_G1 {α : Type} {k : Nat} {enc : α → List Value} {SL e : TypeId} {by' : Nat} (hE : Elem SL e k by') (hk0 : 0 < k) (hk1 : k ≤ 1000) (hby : by' ≤ 64) (hk : ∀ x, (enc x).length = k) (x : α) (v : Value) (hv : v.cells = (enc x).toArray) (W : World) :
    (Instr.buildSlice SL 1 #[(0, v)]).run Tryz.prog W = .ok (.slice (some ⟨W.heap.size, 0, none⟩) 1 1) (W.alloc (.cells (enc x).toArray e)) := by
  obtain ⟨hu, i, z, hi, hz, h1, h2, h3⟩ := hE
  refine run_buildSlice W _ _ _ _ _ i _ hu hi hz (by rw [h1]; omega) (by rw [h1]; omega) ?_
  rw [h1]
  have := Go.Great.fill_whole (s := k) hk0 [v] (Array.map (fun x => z.cells[x % z.cells.size]!) (Array.range (1 * k))) (fun u hu => by rw [List.mem_singleton.1 hu, hv, List.size_toArray, hk]) (by simp)
  rw [show #[(0, v)].toList = [(0, v)] from rfl]
  simpa [hv] using this
theorem one_G {α : Type} {k : Nat} {enc : α → List Value} (W : World) (e : TypeId) (x : α) : ∀ (j : Nat) y, [x][j]? = some y → (W.alloc (.cells (enc x).toArray e)).rangeAt W.heap.size (0 + j * k) (enc y) := fun j y hj => by
  have h0 : j = 0 := by
    have := (List.getElem?_eq_some_iff.1 hj).1
    simp at this; omega
  subst h0
  obtain rfl : x = y := by simpa using hj
  intro i v hv
  rw [cell_of_row _ _ _ _ _ _ (heap_alloc_new W _), show 0 + 0 * k + i = i by omega, ← hv]
  simp
theorem map_five (a : Act) (x0 x1 x2 x3 x6 : Operand) (v0 v1 v2 v3 v6 : Value) (h0 : a.eval x0 = v0) (h1 : a.eval x1 = v1) (h2 : a.eval x2 = v2) (h3 : a.eval x3 = v3) (h6 : a.eval x6 = v6) : (#[(0, x0), (1, x1), (2, x2), (3, x3), (6, x6)] : Array (Nat × Operand)).map (fun (i, x) => (i, a.eval x)) = #[(0, v0), (1, v1), (2, v2), (3, v3), (6, v6)] := by simp [h0, h1, h2, h3, h6]
theorem yieldsIf_build {P : Program} {ops : Array Oper} {S : World → Prop} {op : Oper} {a : Act} (hw : Region.wanted op (yielded ops a.tmps) = true) (ty : TypeId) (ps : Array (Nat × Operand)) (ho : op.op = .build ty ps)
    (qs : Array (Nat × Value)) (hq : (ps.map fun (i, x) => (i, a.eval x)) = qs) (v : Value) (hr : ∀ W, (Instr.build ty qs).run P W = .ok v W) : YieldsIf P ops S op v a :=
  .inl ⟨hw, fun W _ => by
    unfold execOp
    simp only [ho, Sem.run_bind, hq, hr, Result.andThen_ok]
    rfl⟩
theorem wpList_buildQ {P : Program} {w : World} {ops : Array Oper} {rest : List Oper} {o : Oper} {a : Act} {Q : Exit → Act → World → Prop} (hw : Region.wanted o (yielded ops a.tmps) = true) (ty : TypeId) (ps : Array (Nat × Operand)) (ho : o.op = .build ty ps)
    (qs : Array (Nat × Value)) (hq : (ps.map fun (i, x) => (i, a.eval x)) = qs) (v : Value) (hr : ∀ W, (Instr.build ty qs).run P W = .ok v W) (h : wpList P ops Q rest (a.put o.dst v) w) : wpList P ops Q (o :: rest) a w := by
  refine wpList_step ?_
  intro K hK
  rw [if_pos hw]
  unfold Oper.wp execOp
  simp only [ho, Sem.run_bind, hq, hr, Result.andThen_ok]
  exact hK _ _ h
theorem wpList_append_none {w : World} {ops : Array Oper} {rest : List Oper} {o : Oper} {a : Act} {Q : Exit → Act → World → Prop} (hgd : o.guard = none) (s x : Operand) (t : TypeId)
    (ho : o.op = .call { callee := .builtin .append, args := #[s, x], argTypes := #[t, t] }) (base : Nat) (e : TypeId) {by' : Nat} (hE : Elem t e 1 by') (v : Value) (xs : List ByteArray) (hs : a.eval s = v) (hown : OwnG 1 strE e w base v xs) (hx : a.eval x = .slice none 0 0)
    (h : wpList Tryz.prog ops Q rest (a.put o.dst v) w) : wpList Tryz.prog ops Q (o :: rest) a w := wpList_plain hgd fun _ hK => by
  obtain ⟨hu, i, z, hi, -⟩ := hE
  have hrun := run_append_owned_none (P := Tryz.prog) (w := w) base t o.type e i 1 hu hi v _ _ hown
  unfold Oper.wp
  simp [execOp, ho, resolve, invoke, builtin, hs, hx, hrun, Result.andThen]
  exact hK _ _ h
theorem step_store_row {P : Program} {w : World} {ops : Array Oper} {o : Oper} {a : Act} {K : Act → World → Prop} {Q : Exit → Act → World → Prop} {E : Prop} (hw : Region.wanted o (yielded ops a.tmps) = true) (ty : TypeId) (x y : Operand) (ho : o.op = .store ty x y)
    (g : Nat) (cells : Array Value) (hx : a.eval x = .pointer (some ⟨g, 0, none⟩)) (hy : a.eval y = .agg cells)
    (t : TypeId) (old : Array Value) (hg : w.heap[g]? = some (.cells old t (0, 0))) (hi : (P.info? ty).map (·.size) = some cells.size)
    (hold : old.size = cells.size) (h1 : cells.all (·.oneCell') = true) (h : K (a.put o.dst undef) (w.setRow g cells)) :
    if Region.wanted o (yielded ops a.tmps) = true then Oper.wp P o a w K Q else E := by
  rw [if_pos hw]
  exact wp_store_row ty x y ho g cells hx hy t old hg hi hold h1 h
theorem slice_front (s : ByteArray) (m : Nat) (h2 : m ≤ s.size) (x : Int) (hx : x = (m : Int)) (w : World) : (Instr.slice 9 (.string s) none (some (.int .i64 x)) none).run Tryz.prog w = .ok (.string (s.extract 0 m)) w := by
  subst hx
  have ht := Tryz.underlying9
  simp [Instr.slice, run_underlying ht, Instr.sliceBounds, run_sliceBound, h2]
theorem take_snoc {α : Type} {xs : List α} {k : Nat} {x : α} (h : xs[k]? = some x) : xs.take (k + 1) = xs.take k ++ [x] := by rw [List.take_add_one, h]; rfl
theorem build_rext (a b : ByteArray) (W : World) : (Instr.build 47 #[(0, .string a), (1, .string b)]).run Tryz.prog W = .ok (.agg (extE (a, b)).toArray) W := run_build W _ _ _ (by kernel_rfl)
theorem neq_self (s : ByteArray) (W : World) : (binOp .neq 9 (.string s) (.string s)).run Tryz.prog W = .ok (.bool false) W := by
  rw [binOp_string_neq]
  simp
theorem guard_strn (x y : Operand) (s t : ByteArray) (W : World) : (eqGuard .neq 9 x y (.string s) (.string t)).run Tryz.prog W = .ok () W := by
  simp [eqGuard]
/-- At most so many bytes. -/
def cutB (m : Nat) (s : ByteArray) : ByteArray := s.extract 0 (min s.size m)
def fewX (x : ByteArray × ByteArray) : ByteArray × ByteArray := (cutB 150 x.1, cutB 200 x.2)
def fewC (c : CX) : CX := ⟨c.n, cutB 200 c.u, c.t, c.z, (c.xs.take 20).map fewX, (c.fs.take 20).map (cutB 300), cutB 500 c.d⟩
theorem cutB_size (m : Nat) (s : ByteArray) : (cutB m s).size ≤ m := by unfold cutB; rw [ByteArray.size_extract]; omega
end Go.Proofs.YthokcdjmhhlcdaaGreatDoor
