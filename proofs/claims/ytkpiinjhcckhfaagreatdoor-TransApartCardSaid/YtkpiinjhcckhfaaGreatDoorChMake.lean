/- A zero change. -/
import Derived.Test.YtkpiinjhcckhfaaGreatDoorCoParse
import Derived.Test.YtkpiinjhcckhfaaGreatDoorChPrint
import Derived.Test.YtkpiinjhcckhfaaGreatDoorCoRd4
import Derived.Test.YtkpiinjhcckhfaaGreatDoorCoExtra
import Derived.Test.YtkpiinjhcckhfaaGreatDoorChKey
/-! A zero change. -/
namespace Go.Proofs.YtkpiinjhcckhfaaGreatDoor
open Go.RowKit Plain
set_option linter.unusedVariables false
theorem chA_id (c : CX) (xv fv : Value) (h20 : c.n.length = 20) (n : List Int) (hn : n.length = 20) : setAll (chA c xv fv) 0 (U8 n) = chA { c with n := n } xv fv := by
  apply Array.toList_inj.1
  rw [setAll_list _ _ _ (by rw [chA_size _ _ _ h20, U8_length, hn]; omega)]
  unfold chA chL
  rw [U8_length, hn]
  show [] ++ U8 n ++ (U8 c.n ++ _).drop (0 + 20) = _
  rw [Nat.zero_add, show (20 : Nat) = (U8 c.n).length by rw [U8_length, h20], List.drop_left]
  rfl
theorem chA_set (c : CX) (xv fv : Value) (h20 : c.n.length = 20) (i : Nat) (v : Value) (l' : List Value) (hl : ([.string c.u, .int .i64 c.t, .int .i64 c.z, xv, fv, .string c.d] : List Value).set i v = l') : (chA c xv fv).setIfInBounds (20 + i) v = (U8 c.n ++ l').toArray := by
  unfold chA chL
  rw [List.setIfInBounds_toArray, List.set_append_right _ _ (by rw [U8_length, h20]; omega), U8_length, h20, show 20 + i - 20 = i by omega, hl]
def czero : CX := ⟨zeros20, ⟨#[]⟩, 0, 0, [], [], ⟨#[]⟩⟩
theorem czero_20 : czero.n.length = 20 := by show zeros20.length = 20; decide +kernel
theorem zero_ch (W : World) : (zeroValue 40).run Tryz.prog W = .ok (.agg (chA czero (.slice none 0 0) (.slice none 0 0))) W := by kernel_rfl
theorem build_ch0 (W : World) : (Instr.build 40 #[]).run Tryz.prog W = .ok (.agg (chA czero (.slice none 0 0) (.slice none 0 0))) W := run_build W _ _ _ (by kernel_rfl)
theorem chA_one (c : CX) (xv fv : Value) (hx : xv.oneCell' = true) (hf : fv.oneCell' = true) : (chA c xv fv).all (·.oneCell') = true := by
  rw [Array.all_eq_true_iff_forall_mem]
  intro u hu
  exact chL_one c xv fv hx hf u (by simpa [chA] using hu)
end Go.Proofs.YtkpiinjhcckhfaaGreatDoor
/-! Changes made: whole, of pieces; rows of one. -/
namespace Go.Proofs.YtkpiinjhcckhfaaGreatDoor
open Go.RowKit Plain Go.ChangeShapes Go.WideShapes Go.ChangeAt Go.Great
set_option linter.unusedVariables false
theorem built_ch (u d : ByteArray) (t z a0 a1 a2 a3 a4 a5 a6 a7 a8 a9 a10 a11 a12 a13 a14 a15 a16 a17 a18 a19 : Int) : Tryz.prog.built 40 [(0, .agg #[.int .u8 a0, .int .u8 a1, .int .u8 a2, .int .u8 a3, .int .u8 a4, .int .u8 a5, .int .u8 a6, .int .u8 a7, .int .u8 a8, .int .u8 a9, .int .u8 a10, .int .u8 a11, .int .u8 a12, .int .u8 a13, .int .u8 a14, .int .u8 a15, .int .u8 a16, .int .u8 a17, .int .u8 a18, .int .u8 a19]), (1, .string u), (2, .int .i64 t), (3, .int .i64 z), (6, .string d)] = some (chA ⟨[a0, a1, a2, a3, a4, a5, a6, a7, a8, a9, a10, a11, a12, a13, a14, a15, a16, a17, a18, a19], u, t, z, [], [], d⟩ (.slice none 0 0) (.slice none 0 0)) := by kernel_rfl
theorem built_rch (u d : ByteArray) (t z a0 a1 a2 a3 a4 a5 a6 a7 a8 a9 a10 a11 a12 a13 a14 a15 a16 a17 a18 a19 : Int) : Tryz.prog.built 49 [(0, .agg #[.int .u8 a0, .int .u8 a1, .int .u8 a2, .int .u8 a3, .int .u8 a4, .int .u8 a5, .int .u8 a6, .int .u8 a7, .int .u8 a8, .int .u8 a9, .int .u8 a10, .int .u8 a11, .int .u8 a12, .int .u8 a13, .int .u8 a14, .int .u8 a15, .int .u8 a16, .int .u8 a17, .int .u8 a18, .int .u8 a19]), (1, .string u), (2, .int .i64 t), (3, .int .i64 z), (6, .string d)] = some (chA ⟨[a0, a1, a2, a3, a4, a5, a6, a7, a8, a9, a10, a11, a12, a13, a14, a15, a16, a17, a18, a19], u, t, z, [], [], d⟩ (.slice none 0 0) (.slice none 0 0)) := by kernel_rfl
theorem build_ch (c : CX) (h : c.n.length = 20) (W : World) : (Instr.build 40 #[(0, .agg (V8 c.n)), (1, .string c.u), (2, .int .i64 c.t), (3, .int .i64 c.z), (6, .string c.d)]).run Tryz.prog W = .ok (.agg (chA c (.slice none 0 0) (.slice none 0 0))) W := by
  obtain ⟨n, u, t, z, xs, fs, d⟩ := c
  obtain ⟨a0, a1, a2, a3, a4, a5, a6, a7, a8, a9, a10, a11, a12, a13, a14, a15, a16, a17, a18, a19, rfl⟩ := list20 h
  exact run_build W _ _ _ (built_ch u d t z a0 a1 a2 a3 a4 a5 a6 a7 a8 a9 a10 a11 a12 a13 a14 a15 a16 a17 a18 a19)
theorem build_rch (c : CX) (h : c.n.length = 20) (W : World) : (Instr.build 49 #[(0, .agg (V8 c.n)), (1, .string c.u), (2, .int .i64 c.t), (3, .int .i64 c.z), (6, .string c.d)]).run Tryz.prog W = .ok (.agg (chA c (.slice none 0 0) (.slice none 0 0))) W := by
  obtain ⟨n, u, t, z, xs, fs, d⟩ := c
  obtain ⟨a0, a1, a2, a3, a4, a5, a6, a7, a8, a9, a10, a11, a12, a13, a14, a15, a16, a17, a18, a19, rfl⟩ := list20 h
  exact run_build W _ _ _ (built_rch u d t z a0 a1 a2 a3 a4 a5 a6 a7 a8 a9 a10 a11 a12 a13 a14 a15 a16 a17 a18 a19)
theorem zero_rch (W : World) : (zeroValue 49).run Tryz.prog W = .ok (.agg (chA czero (.slice none 0 0) (.slice none 0 0))) W := by kernel_rfl
theorem zero_rext (W : World) : (zeroValue 63).run Tryz.prog W = .ok (.agg #[.string ⟨#[]⟩, .string ⟨#[]⟩]) W := by kernel_rfl
theorem info_rext (x : ByteArray × ByteArray) : (Tryz.prog.info? 63).map (·.size) = some (extE x).length := by show _ = some 2; kernel_rfl
theorem info_rextA (x : ByteArray × ByteArray) : (Tryz.prog.info? 63).map (·.size) = some (extE x).toArray.size := by show _ = some 2; kernel_rfl
theorem info_chA (c : CX) (xv fv : Value) (h : c.n.length = 20) : (Tryz.prog.info? 40).map (·.size) = some (chA c xv fv).size := by rw [chA_size c xv fv h]; kernel_rfl
theorem info_rchA (c : CX) (xv fv : Value) (h : c.n.length = 20) : (Tryz.prog.info? 49).map (·.size) = some (chA c xv fv).size := by rw [chA_size c xv fv h]; kernel_rfl
theorem id20_infoL : ∀ xs : List Int, xs.length = 20 → (Tryz.prog.info? 22).map (·.size) = some (U8 xs).length := fun xs h => by rw [U8_length, h]; kernel_rfl
theorem map_five (a : Act) (x0 x1 x2 x3 x6 : Operand) (v0 v1 v2 v3 v6 : Value) (h0 : a.eval x0 = v0) (h1 : a.eval x1 = v1) (h2 : a.eval x2 = v2) (h3 : a.eval x3 = v3) (h6 : a.eval x6 = v6) : (#[(0, x0), (1, x1), (2, x2), (3, x3), (6, x6)] : Array (Nat × Operand)).map (fun (i, x) => (i, a.eval x)) = #[(0, v0), (1, v1), (2, v2), (3, v3), (6, v6)] := by simp [h0, h1, h2, h3, h6]
theorem wpList_append_none {w : World} {ops : Array Oper} {rest : List Oper} {o : Oper} {a : Act} {Q : Exit → Act → World → Prop} (hgd : o.guard = none) (s x : Operand) (t : TypeId)
    (ho : o.op = .call { callee := .builtin .append, args := #[s, x], argTypes := #[t, t] }) (base : Nat) (e : TypeId) {by' : Nat} (hE : Elem t e 1 by') (v : Value) (xs : List ByteArray) (hs : a.eval s = v) (hown : OwnG 1 strE e w base v xs) (hx : a.eval x = .slice none 0 0)
    (h : wpList Tryz.prog ops Q rest (a.put o.dst v) w) : wpList Tryz.prog ops Q (o :: rest) a w := wpList_plain hgd fun _ hK => by
  obtain ⟨hu, i, z, hi, -⟩ := hE
  have hrun := run_append_owned_none (P := Tryz.prog) (w := w) base t o.type e i 1 hu hi v _ _ hown
  unfold Oper.wp
  simp [execOp, ho, resolve, invoke, builtin, hs, hx, hrun, Result.andThen]
  exact hK _ _ h
theorem step_store_row {P : Program} {w : World} {ops : Array Oper} {o : Oper} {a : Act} {K : Act → World → Prop} {Q : Exit → Act → World → Prop} {E : Prop} (hw : Region.wanted o (yielded ops a.tmps) = true) (ty : TypeId) (x y : Operand) (ho : o.op = .store ty x y)
    (g : Nat) (cells : Array Value) (hx : a.eval x = .pointer (some ⟨g, 0, none⟩)) (hy : a.eval y = .agg cells)
    (t : TypeId) (old : Array Value) (hg : w.heap[g]? = some (.cells old t (0, 0))) (hi : (P.info? ty).map (·.size) = some cells.size)
    (hold : old.size = cells.size) (h1 : cells.all (·.oneCell') = true) (h : K (a.put o.dst undef) (w.setRow g cells)) :
    if Region.wanted o (yielded ops a.tmps) = true then Oper.wp P o a w K Q else E := by
  rw [if_pos hw]
  exact wp_store_row ty x y ho g cells hx hy t old hg hi hold h1 h
theorem slice_front (s : ByteArray) (m : Nat) (h2 : m ≤ s.size) (x : Int) (hx : x = (m : Int)) (w : World) : (Instr.slice 9 (.string s) none (some (.int .i64 x)) none).run Tryz.prog w = .ok (.string (s.extract 0 m)) w := by
  subst hx
  have ht := Tryz.underlying9
  simp [Instr.slice, run_underlying ht, Instr.sliceBounds, run_sliceBound, h2]
theorem take_snoc {α : Type} {xs : List α} {k : Nat} {x : α} (h : xs[k]? = some x) : xs.take (k + 1) = xs.take k ++ [x] := by rw [List.take_add_one, h]; rfl
theorem build_ext (a b : ByteArray) (W : World) : (Instr.build 79 #[(0, .string a), (1, .string b)]).run Tryz.prog W = .ok (.agg (extE (a, b)).toArray) W := run_build W _ _ _ (by kernel_rfl)
theorem build_rext (a b : ByteArray) (W : World) : (Instr.build 63 #[(0, .string a), (1, .string b)]).run Tryz.prog W = .ok (.agg (extE (a, b)).toArray) W := run_build W _ _ _ (by kernel_rfl)
theorem guard_strn (x y : Operand) (s t : ByteArray) (W : World) : (eqGuard .neq 9 x y (.string s) (.string t)).run Tryz.prog W = .ok () W := by
  simp [eqGuard]
/-- At most so many bytes. -/
def cutB (m : Nat) (s : ByteArray) : ByteArray := s.extract 0 (min s.size m)
def fewX (x : ByteArray × ByteArray) : ByteArray × ByteArray := (cutB 150 x.1, cutB 200 x.2)
def fewC (c : CX) : CX := ⟨c.n, cutB 200 c.u, c.t, c.z, (c.xs.take 20).map fewX, (c.fs.take 20).map (cutB 300), cutB 500 c.d⟩
theorem cutB_size (m : Nat) (s : ByteArray) : (cutB m s).size ≤ m := by unfold cutB; rw [ByteArray.size_extract]; omega
end Go.Proofs.YtkpiinjhcckhfaaGreatDoor
/-! A change that came in. -/
namespace Go.Proofs.YtkpiinjhcckhfaaGreatDoor
open Go.RowKit Plain Go.ChangeShapes Go.WideShapes Go.ChangeAt Go.Deep
set_option linter.unusedVariables false
theorem trod_ids {H : Type} {enc : TypeId × Value → H} {w : World} {base : Nat} {held : Bool} {t : TypeId} {n fuel : Nat} {cs : List Value} {y : DataW H × List MemPlace}
    (ht : Tryz.prog.underlying t = some (.array n 5)) (hl : cs.length = n) (h : DataW.trod enc Tryz.prog w base (fun _ => true) held fuel t cs = some y) :
    ∃ zs : List Int, cs = U8 zs ∧ zs.length = n ∧ ∀ z ∈ zs, 0 ≤ z ∧ z ≤ 255 := by
  obtain ⟨xs, m, -, -, -, hxl, hget⟩ := DataW.trod_array ht h
  have hone : Tryz.prog.cellsOf 5 = 1 := by kernel_rfl
  have key : ∀ i, i < n → ∃ z : Int, cs[i]? = some (.int .u8 z) ∧ 0 ≤ z ∧ z ≤ 255 := by
    intro i hi
    have h1 := hget i hi
    rw [hone, Nat.mul_one] at h1
    have hi' : i < cs.length := by omega
    rw [List.getElem?_eq_getElem (by omega)] at h1
    have e : (List.drop i cs).take 1 = [cs[i]] := by
      rw [List.drop_eq_getElem_cons hi', List.take_succ_cons, List.take_zero]
    rw [e] at h1
    obtain ⟨z, hz, -, hw⟩ := DataW.trod_int Tryz.underlying5 h1
    exact ⟨z, by rw [List.getElem?_eq_getElem hi']; simpa using hz, bounds_u8 hw⟩
  refine ⟨(List.range n).map fun i => numOf cs[i]?, ?_, by simp, fun z hz => ?_⟩
  · apply List.ext_getElem?
    intro i
    unfold U8
    rw [List.map_map, List.getElem?_map]
    by_cases hi : i < n
    · obtain ⟨z, hz, -⟩ := key i hi
      rw [List.getElem?_range hi, hz]
      simp [hz, numOf]
    · rw [List.getElem?_eq_none (by omega), List.getElem?_eq_none (by simp; omega)]
      rfl
  · obtain ⟨i, hi, rfl⟩ := List.mem_map.1 hz
    obtain ⟨z, hz, h0⟩ := key i (List.mem_range.1 hi)
    rw [hz]
    exact h0
set_option maxRecDepth 100000 in
/-- A row of records that came in. -/
theorem trod_rowG {α : Type} {k : Nat} {encα : α → List Value} {Ok : α → Prop} {SL e : TypeId} {H : Type} {enc : TypeId × Value → H} {w : World} {base : Nat} {held : Bool}
    (ht : Tryz.prog.underlying SL = some (.slice e)) (hk : Tryz.prog.cellsOf e = k) (hk0 : 0 < k) (hek : ∀ x, (encα x).length = k) (d : α)
    (hel : ∀ n (cs : List Value) y, cs.length = k → DataW.trod enc Tryz.prog w base (fun _ => true) held n e cs = some y → ∃ x, cs = encα x ∧ Ok x)
    {fuel : Nat} {cs : List Value} {y : DataW H × List MemPlace} (hf : DataW.trod enc Tryz.prog w base (fun _ => true) held fuel SL cs = some y) :
    ∃ (a : Option Addr) (cap : Nat) (xs : List α), cs = [.slice a xs.length cap] ∧ xs.length ≤ 9223372036854775807 ∧ RowAt k encα w a xs ∧ ∀ x ∈ xs, Ok x := by
  rcases DataW.trod_slice ht hf with ⟨hcs, -⟩ | ⟨x, len, cap, elems, rest, n, -, hcs, -, hb, hl, hm, hlen, hels, -, -⟩
  · exact ⟨none, 0, [], hcs, by simp, RowAt.nil w none, by simp⟩
  · have each : ∀ j, ∃ y : α, j < len → Ok y ∧ ∀ i u, (encα y)[i]? = some u → w.cell? ((x.add (j * k)).add i) = some u := by
      intro j
      by_cases hj : j < len
      · have e1 := hels j (by omega)
        rw [hk] at e1
        obtain ⟨y, hy⟩ : ∃ y, elems[j]? = some y := ⟨_, List.getElem?_eq_getElem (by omega)⟩
        rw [hy, Option.bind_eq_some_iff] at e1
        obtain ⟨cs', hcs', hst⟩ := e1
        obtain ⟨-, hcl, hcc⟩ := World.cells?_some hcs'
        obtain ⟨z, rfl, hz⟩ := hel n cs' y hcl hst
        refine ⟨z, fun _ => ⟨hz, fun i u hu => ?_⟩⟩
        have hil := (List.getElem?_eq_some_iff.1 hu).1
        have := hcc i (by rw [hek] at hil; omega)
        rw [this, hu]
      · exact ⟨d, fun h => absurd h hj⟩
    obtain ⟨f, hf2⟩ : ∃ f : Nat → α, ∀ j, j < len → Ok (f j) ∧ ∀ i u, (encα (f j))[i]? = some u → w.cell? ((x.add (j * k)).add i) = some u :=
      ⟨fun j => (each j).choose, fun j => (each j).choose_spec⟩
    have hll : ((List.range len).map f).length = len := by simp
    refine ⟨some x, cap, (List.range len).map f, by rw [hll]; exact hcs, by rw [hll]; unfold maxLen at hm; omega, ?_, fun p hp => ?_⟩
    · by_cases h0 : len = 0
      · exact .inl (by rw [hll]; exact h0)
      · obtain ⟨b, off, spot⟩ := x
        have hl0 : 0 < (encα (f 0)).length := by rw [hek]; exact hk0
        have c0 := (hf2 0 (by omega)).2 0 _ (List.getElem?_eq_getElem hl0)
        have hspot : spot = none := by simpa [Addr.add] using World.cell?_spot c0
        subst hspot
        have hplain : ∀ (o i : Nat), (⟨b, o, none⟩ : Addr).add i = ⟨b, o + i, none⟩ := fun o i => by unfold Addr.add; split <;> simp_all
        refine .inr ⟨b, off, rfl, ?_, fun j p hj i u hu => ?_⟩
        · rw [hplain, hplain] at c0
          exact World.block_lt_of_cell? w _ c0
        · have hjl : j < len := by
            have := (List.getElem?_eq_some_iff.1 hj).1
            rw [hll] at this; exact this
          rw [List.getElem?_map, List.getElem?_range hjl] at hj
          injection hj with hj
          subst hj
          have := (hf2 j hjl).2 i u hu
          rw [hplain, hplain] at this
          exact this
    · obtain ⟨j, hj, rfl⟩ := List.mem_map.1 hp
      exact (hf2 j (List.mem_range.1 hj)).1
/-- A change that came in: every size is one that a program may have. -/
structure InCh (w : World) (c : CX) (xa fa : Option Addr) : Prop where
  n20 : c.n.length = 20
  byt : ∀ x ∈ c.n, 0 ≤ x ∧ x ≤ 255
  us : c.u.size ≤ maxLen
  ds : c.d.size ≤ maxLen
  xn : c.xs.length ≤ 9223372036854775807
  fn : c.fs.length ≤ 9223372036854775807
  xsz : ∀ x ∈ c.xs, x.1.size ≤ maxLen ∧ x.2.size ≤ maxLen
  fsz : ∀ p ∈ c.fs, p.size ≤ maxLen
  t64 : -9223372036854775808 ≤ c.t ∧ c.t ≤ 9223372036854775807
  z64 : -9223372036854775808 ≤ c.z ∧ c.z ≤ 9223372036854775807
  exts : RowAt 2 extE w xa c.xs
  files : RowAt 1 strE w fa c.fs
theorem InCh.below {w w' : World} {c : CX} {xa fa : Option Addr} (h : InCh w c xa fa) (hb : Below w.heap.size w w') : InCh w' c xa fa :=
  ⟨h.n20, h.byt, h.us, h.ds, h.xn, h.fn, h.xsz, h.fsz, h.t64, h.z64, h.exts.below hb, h.files.below hb⟩
theorem i64_of {n : Int} (h : (Lit.int .i64 n).wf = true) : -9223372036854775808 ≤ n ∧ n ≤ 9223372036854775807 := bounds_i64 h
set_option maxRecDepth 100000 in
theorem open_change {H : Type} {enc : TypeId × Value → H} {w : World} {base b0 : Nat} {held : Bool} {r : Reach} {v : Value} {d : DataW H} {p : List MemPlace}
    (hv : Value.okWide Tryz.prog w r b0 49 v) (h : DataW.Trod enc Tryz.prog w base (fun _ => true) held 49 v d p) :
    ∃ (c : CX) (xa : Option Addr) (xc : Nat) (fa : Option Addr) (fc : Nat), v = .agg (chV c xa xc fa fc) ∧ InCh w c xa fa := by
  have ht := Tryz.underlying49
  simp only [Value.okWide, ht] at hv
  obtain ⟨cs, rfl, hsz, -⟩ := hv
  obtain ⟨fuel, hf⟩ := h
  obtain ⟨ys, n, -, -, hl, hyl, hg⟩ := DataW.trod_struct ht hf
  have hC : Tryz.prog.cellsOf 49 = 26 := by kernel_rfl
  have hC1 : Tryz.prog.cellsOf 9 = 1 := by kernel_rfl
  have hC2 : Tryz.prog.cellsOf 22 = 20 := by kernel_rfl
  have hC3 : Tryz.prog.cellsOf 3 = 1 := by kernel_rfl
  have hC4 : Tryz.prog.cellsOf 47 = 1 := by kernel_rfl
  have hC5 : Tryz.prog.cellsOf 38 = 1 := by kernel_rfl
  have hC6 : Tryz.prog.cellsOf 63 = 2 := by kernel_rfl
  rw [hC] at hl hsz
  change cs.toList.length = 26 at hl
  have hyl7 : ys.length = 7 := hyl
  have g0 := hg 0 _ rfl
  have g1 := hg 1 _ rfl
  have g2 := hg 2 _ rfl
  have g3 := hg 3 _ rfl
  have g4 := hg 4 _ rfl
  have g5 := hg 5 _ rfl
  have g6 := hg 6 _ rfl
  rw [List.getElem?_eq_getElem (by omega)] at g0 g1 g2 g3 g4 g5 g6
  change DataW.trod enc Tryz.prog w base (fun _ => true) held n 22 ((cs.toList.drop 0).take (Tryz.prog.cellsOf 22)) = some _ at g0
  rw [hC2] at g0
  change DataW.trod enc Tryz.prog w base (fun _ => true) held n 9 ((cs.toList.drop 20).take (Tryz.prog.cellsOf 9)) = some _ at g1
  rw [hC1] at g1
  change DataW.trod enc Tryz.prog w base (fun _ => true) held n 3 ((cs.toList.drop 21).take (Tryz.prog.cellsOf 3)) = some _ at g2
  rw [hC3] at g2
  change DataW.trod enc Tryz.prog w base (fun _ => true) held n 3 ((cs.toList.drop 22).take (Tryz.prog.cellsOf 3)) = some _ at g3
  rw [hC3] at g3
  change DataW.trod enc Tryz.prog w base (fun _ => true) held n 47 ((cs.toList.drop 23).take (Tryz.prog.cellsOf 47)) = some _ at g4
  rw [hC4] at g4
  change DataW.trod enc Tryz.prog w base (fun _ => true) held n 38 ((cs.toList.drop 24).take (Tryz.prog.cellsOf 38)) = some _ at g5
  rw [hC5] at g5
  change DataW.trod enc Tryz.prog w base (fun _ => true) held n 9 ((cs.toList.drop 25).take (Tryz.prog.cellsOf 9)) = some _ at g6
  rw [hC1] at g6
  obtain ⟨N, hN, hNl, hNb⟩ := trod_ids Tryz.underlying22 (by rw [List.length_take, List.length_drop, hl]; rfl) g0
  obtain ⟨U, hU, -, hus⟩ := DataW.trod_string Tryz.underlying9 g1
  obtain ⟨T, hT, -, hts⟩ := DataW.trod_int Tryz.underlying3 g2
  obtain ⟨Z, hZ, -, hzs⟩ := DataW.trod_int Tryz.underlying3 g3
  obtain ⟨xa, xc, xs, hX, hxn, hxr, hxo⟩ := trod_rowG (k := 2) (encα := extE) (Ok := fun x => x.1.size ≤ maxLen ∧ x.2.size ≤ maxLen) Tryz.underlying47 hC6 (by decide) extE_len (⟨#[]⟩, ⟨#[]⟩) (fun n' cs' y' hcl hst => by
    obtain ⟨z0, z1, n2, -, -, q0, q1⟩ := trod_struct2 Tryz.underlying63 hst
    simp only [hC1] at q0 q1
    change DataW.trod enc Tryz.prog w base (fun _ => true) held n2 9 ((cs'.drop 0).take 1) = some z0 at q0
    change DataW.trod enc Tryz.prog w base (fun _ => true) held n2 9 ((cs'.drop 1).take 1) = some z1 at q1
    obtain ⟨K, hK, -, hks⟩ := DataW.trod_string Tryz.underlying9 q0
    obtain ⟨V, hV, -, hvs⟩ := DataW.trod_string Tryz.underlying9 q1
    refine ⟨(K, V), ?_, hks, hvs⟩
    rw [List.drop_zero] at hK
    rw [List.take_of_length_le (by rw [List.length_drop, hcl]; decide)] at hV
    rw [← List.take_append_drop 1 cs', hK, hV]
    rfl) g4
  obtain ⟨fa, fc, fs, hF, hfn, hfr, hfo⟩ := trod_rowG (k := 1) (encα := strE) (Ok := fun x => x.size ≤ maxLen) Tryz.underlying38 hC1 (by decide) strE_len (⟨#[]⟩) (fun n' cs' y' hcl hst => by
    obtain ⟨K, hK, -, hks⟩ := DataW.trod_string Tryz.underlying9 hst
    exact ⟨K, hK, hks⟩) g5
  obtain ⟨D, hD, -, hds⟩ := DataW.trod_string Tryz.underlying9 g6
  refine ⟨⟨N, U, T, Z, xs, fs, D⟩, xa, xc, fa, fc, ?_, hNl, hNb, hus, hds, hxn, hfn, hxo, hfo, i64_of hts, i64_of hzs, hxr, hfr⟩
  congr 1
  apply Array.toList_inj.1
  unfold chV chA chL
  rw [List.drop_zero] at hN
  have step : ∀ (i : Nat) (u : Value), (cs.toList.drop i).take 1 = [u] → cs.toList.drop i = u :: cs.toList.drop (i + 1) := fun i u h => by
    rw [← List.take_append_drop 1 (cs.toList.drop i), h, List.drop_drop]
    rfl
  have e6 : cs.toList.drop 26 = [] := List.drop_of_length_le (by omega)
  rw [← List.take_append_drop 20 cs.toList, hN, step 20 _ hU, step 21 _ hT, step 22 _ hZ, step 23 _ hX, step 24 _ hF, step 25 _ hD, e6]
end Go.Proofs.YtkpiinjhcckhfaaGreatDoor
