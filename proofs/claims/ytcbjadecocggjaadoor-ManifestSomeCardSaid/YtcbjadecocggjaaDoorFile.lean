/- Files: a path, twenty bytes, a flag: twenty-two cells; rows of them; what came in. -/
import Derived.Test.YtcbjadecocggjaaDoorRight
import Derived.Test.YtcbjadecocggjaaDoorNums
import Derived.OpenShut
import Derived.Deep.AppendLies
import Derived.Deep.MidRow
import Derived.Deep.RegionHeld3
import Derived.Great.BuildSlice
import Derived.ChangeArms
import Derived.ChangeSlices
import Derived.ChangeAt
import Derived.ChangeSame
import Derived.Deep.Strs
namespace Go.Proofs.YtcbjadecocggjaaDoor
open Go.RowKit Plain Go.ChangeShapes Go.WideShapes Go.ChangeAt Go.Great
set_option linter.unusedVariables false
structure MF where
  p : ByteArray
  n : List Int
  f : ByteArray
def fileL (x : MF) : List Value := .string x.p :: (U8 x.n ++ [.string x.f])
def fileA (x : MF) : Array Value := (fileL x).toArray
theorem fileL_len (x : MF) (h : x.n.length = 20) : (fileL x).length = 22 := by
  unfold fileL; rw [List.length_cons, List.length_append, U8_length, h]; rfl
theorem fileA_size (x : MF) (h : x.n.length = 20) : (fileA x).size = 22 := by unfold fileA; rw [List.size_toArray, fileL_len x h]
theorem fileL_one (x : MF) : ∀ u ∈ fileL x, u.oneCell' = true := fun u hu => by
  unfold fileL at hu
  rcases List.mem_cons.1 hu with rfl | hu
  · rfl
  rcases List.mem_append.1 hu with hu | hu
  · exact U8_one _ u hu
  · rw [List.mem_singleton.1 hu]; rfl
theorem fileA_one (x : MF) : (fileA x).all (·.oneCell') = true := by
  rw [Array.all_eq_true_iff_forall_mem]; intro v hv; exact fileL_one x v (by simpa [fileA] using hv)
/-- The cells of a row of files. -/
def flatF (xs : List MF) : List Value := (xs.map fileL).flatten
theorem flatF_append (xs ys : List MF) : flatF (xs ++ ys) = flatF xs ++ flatF ys := by unfold flatF; rw [List.map_append, List.flatten_append]
theorem flatF_one (x : MF) : flatF [x] = fileL x := by simp [flatF]
theorem flatF_cons (x : MF) (xs : List MF) : flatF (x :: xs) = fileL x ++ flatF xs := by simp [flatF]
theorem flatF_len : ∀ (xs : List MF), (∀ x ∈ xs, x.n.length = 20) → (flatF xs).length = xs.length * 22
  | [], _ => rfl
  | x :: xs, h => by
    have := flatF_len xs fun q hq => h q (by simp [hq])
    rw [flatF_cons, List.length_append, fileL_len x (h x (by simp)), this, List.length_cons]; omega
theorem flatF_get : ∀ (xs : List MF) (j i : Nat) (x : MF), (∀ x ∈ xs, x.n.length = 20) → xs[j]? = some x → i < 22 → (flatF xs)[j * 22 + i]? = (fileL x)[i]?
  | [], j, i, x, _, h, _ => by simp at h
  | q :: xs, 0, i, x, h20, h, hi => by
    simp at h
    subst h
    rw [flatF_cons, Nat.zero_mul, Nat.zero_add, List.getElem?_append_left (by rw [fileL_len q (h20 q (by simp))]; exact hi)]
  | q :: xs, j + 1, i, x, h20, h, hi => by
    have hq := fileL_len q (h20 q (by simp))
    rw [flatF_cons, List.getElem?_append_right (by rw [hq]; omega), hq, show (j + 1) * 22 + i - 22 = j * 22 + i by omega]
    exact flatF_get xs j i x (fun r hr => h20 r (by simp [hr])) (by simpa using h) hi
/-- Files that lie in a row. -/
structure FsAt (w : World) (a : Option Addr) (xs : List MF) : Prop where
  each : ∀ x ∈ xs, x.n.length = 20
  rows : xs.length = 0 ∨ ∃ b off, a = some ⟨b, off, none⟩ ∧ b < w.heap.size ∧ ∀ j x, xs[j]? = some x → w.rangeAt b (off + j * 22) (fileL x)
theorem range_below {w w' : World} {b o n : Nat} {cs : List Value} (h : w.rangeAt b o cs) (hb : Below n w w') (hn : b < n) : w'.rangeAt b o cs := fun j v hj => (hb.cell (p := ⟨b, o + j, none⟩) hn).trans (h j v hj)
theorem FsAt.below {w w' : World} {a : Option Addr} {xs : List MF} (h : FsAt w a xs) (hb : Below w.heap.size w w') : FsAt w' a xs :=
  ⟨h.each, h.rows.imp id fun ⟨b, off, e, hl, hc⟩ => ⟨b, off, e, Nat.lt_of_lt_of_le hl hb.size, fun j p hj => range_below (hc j p hj) hb hl⟩⟩
theorem FsAt.at {w : World} {a : Option Addr} {xs : List MF} (h : FsAt w a xs) {k : Nat} (hk : k < xs.length) : ∃ b off x, a = some ⟨b, off, none⟩ ∧ xs[k]? = some x ∧ x.n.length = 20 ∧ b < w.heap.size ∧ w.rangeAt b (off + k * 22) (fileL x) := by
  rcases h.rows with h0 | ⟨b, off, rfl, hl, hc⟩
  · omega
  · have hg : xs[k]? = some (xs[k]'hk) := List.getElem?_eq_getElem hk
    exact ⟨b, off, _, rfl, hg, h.each _ (List.mem_of_getElem? hg), hl, hc k _ hg⟩
theorem FsAt.nil (w : World) : FsAt w none [] := ⟨fun p hp => absurd hp (by simp), .inl rfl⟩
theorem range_path {w : World} {b o : Nat} {x : MF} (h : w.rangeAt b o (fileL x)) : w.cell? ⟨b, o, none⟩ = some (.string x.p) := h 0 _ rfl
theorem range_node {w : World} {b o : Nat} {x : MF} (h : w.rangeAt b o (fileL x)) : w.rangeAt b (o + 1) (U8 x.n) := fun j v hj => by
  have hl : j < (U8 x.n).length := (List.getElem?_eq_some_iff.1 hj).1
  rw [show o + 1 + j = o + (j + 1) by omega]
  refine h (j + 1) v ?_
  unfold fileL
  rw [List.getElem?_cons_succ, List.getElem?_append_left hl, hj]
theorem range_flag {w : World} {b o : Nat} {x : MF} (h : w.rangeAt b o (fileL x)) (h20 : x.n.length = 20) : w.cell? ⟨b, o + 21, none⟩ = some (.string x.f) := h 21 _ (by
  unfold fileL
  rw [List.getElem?_cons_succ, List.getElem?_append_right (by rw [U8_length]; omega), U8_length, h20]
  rfl)
/-- Files in a row of the call's own. -/
def OwnF (e : TypeId) (w : World) (base : Nat) (v : Value) (xs : List MF) : Prop := w.ownsRow base e 22 v xs.length (flatF xs) ∧ ∀ x ∈ xs, x.n.length = 20
theorem OwnF.at {e : TypeId} {w : World} {base : Nat} {v : Value} {xs : List MF} (h : OwnF e w base v xs) : ∃ a c, v = .slice a xs.length c ∧ FsAt w a xs ∧ xs.length ≤ c ∧ (a = none → c = 0) := by
  obtain ⟨h1, h20⟩ := h
  obtain ⟨h2, ⟨rfl, h0⟩ | ⟨g, cap, cur, rfl, h3, h4, h5, h6, h7, h8⟩⟩ := id h1
  · rw [h0]; exact ⟨none, 0, rfl, ⟨h20, .inl h0⟩, by omega, fun _ => rfl⟩
  · refine ⟨some ⟨g, 0, none⟩, cap, rfl, ⟨h20, .inr ⟨g, 0, rfl, (Array.getElem?_eq_some_iff.1 h4).1, fun j p hj i v hv => ?_⟩⟩, h5, fun e => by cases e⟩
    have hjl : j < xs.length := (List.getElem?_eq_some_iff.1 hj).1
    have hi : i < 22 := by
      have := (List.getElem?_eq_some_iff.1 hv).1
      rw [fileL_len p (h20 p (List.mem_of_getElem? hj))] at this; exact this
    rw [Nat.zero_add, h1.cellAt (j * 22 + i) (by omega), flatF_get xs j i p h20 hj hi, hv]
theorem OwnF.lt {e : TypeId} {w : World} {base : Nat} {v : Value} {xs : List MF} (h : OwnF e w base v xs) {g : Nat} (hg : v.ownBlock = some g) : base ≤ g ∧ g < w.heap.size := h.1.lt g hg
theorem OwnF.below {e : TypeId} {w w' : World} {base : Nat} {v : Value} {xs : List MF} (h : OwnF e w base v xs) (hb : Below w.heap.size w w') : OwnF e w' base v xs := by
  obtain ⟨⟨h1, h2 | ⟨g, cap, cur, h3, h4, h5, h6⟩⟩, h20⟩ := h
  · exact ⟨⟨h1, .inl h2⟩, h20⟩
  · exact ⟨⟨h1, .inr ⟨g, cap, cur, h3, h4, (hb.block g (Array.getElem?_eq_some_iff.1 h5).1).trans h5, h6⟩⟩, h20⟩
theorem OwnF.lower {e : TypeId} {w : World} {base base' : Nat} {v : Value} {xs : List MF} (h : OwnF e w base v xs) (hb : base' ≤ base) : OwnF e w base' v xs :=
  ⟨⟨h.1.1, h.1.2.imp id fun ⟨g, cap, cur, e1, h1, r⟩ => ⟨g, cap, cur, e1, Nat.le_trans hb h1, r⟩⟩, h.2⟩
theorem OwnF.nil (e : TypeId) (w : World) (base : Nat) : OwnF e w base (.slice none 0 0) [] := ⟨World.ownsRow_nil _ _ _ _, by simp⟩
theorem OwnF.shape {e : TypeId} {w : World} {base : Nat} {v : Value} {xs : List MF} (h : OwnF e w base v xs) : ∃ a c, v = .slice a xs.length c := by
  obtain ⟨a, c, h1, -⟩ := h.at
  exact ⟨a, c, h1⟩
theorem OwnF.fs {e : TypeId} {w : World} {base : Nat} {a : Option Addr} {n c : Nat} {xs : List MF} (h : OwnF e w base (.slice a n c) xs) : FsAt w a xs ∧ xs.length = n := by
  obtain ⟨a', c', h1, h2, -⟩ := h.at
  simp only [Value.slice.injEq] at h1
  obtain ⟨rfl, rfl, rfl⟩ := h1
  exact ⟨h2, rfl⟩
theorem own_off {w w' : World} {base : Nat} {v : Value} {xs : List MF} {e : TypeId} (h : OwnF e w base v xs) (hb : base ≤ w.heap.size) (hg : w.grownBy w' v.ownBlock) : Below base w w' :=
  (Below.refl _ _).grown hg hb fun k hk => (h.lt hk).1
/-! ### Values -/
def noFile : MF := ⟨⟨#[]⟩, zeros20, ⟨#[]⟩⟩
theorem id_infoL : ∀ xs : List Int, xs.length = 20 → (Tryd.prog.info? 30).map (·.size) = some (U8 xs).length := fun xs h => by rw [U8_length, h]; kernel_rfl
theorem id20_infoL : ∀ xs : List Int, xs.length = 20 → (Tryd.prog.info? 29).map (·.size) = some (U8 xs).length := fun xs h => by rw [U8_length, h]; kernel_rfl
theorem fid_info : ∀ xs : List Int, xs.length = 20 → (Tryd.prog.info? 30).map (·.size) = some (V8 xs).size := fun xs h => by rw [V8_size, h]; kernel_rfl
theorem id20_info : ∀ xs : List Int, xs.length = 20 → (Tryd.prog.info? 29).map (·.size) = some (V8 xs).size := fun xs h => by rw [V8_size, h]; kernel_rfl
theorem file_info (x : MF) (h : x.n.length = 20) : (Tryd.prog.info? 32).map (·.size) = some (fileA x).size := by rw [fileA_size x h]; kernel_rfl
theorem rfile_info (x : MF) (h : x.n.length = 20) : (Tryd.prog.info? 45).map (·.size) = some (fileA x).size := by rw [fileA_size x h]; kernel_rfl
theorem file_infoL (x : MF) (h : x.n.length = 20) : (Tryd.prog.info? 32).map (·.size) = some (fileL x).length := by rw [fileL_len x h]; kernel_rfl
theorem rfile_infoL (x : MF) (h : x.n.length = 20) : (Tryd.prog.info? 45).map (·.size) = some (fileL x).length := by rw [fileL_len x h]; kernel_rfl
theorem list20 {xs : List Int} (h : xs.length = 20) : ∃ a0 a1 a2 a3 a4 a5 a6 a7 a8 a9 a10 a11 a12 a13 a14 a15 a16 a17 a18 a19 : Int, xs = [a0, a1, a2, a3, a4, a5, a6, a7, a8, a9, a10, a11, a12, a13, a14, a15, a16, a17, a18, a19] := by
  match xs, h with
  | [a0, a1, a2, a3, a4, a5, a6, a7, a8, a9, a10, a11, a12, a13, a14, a15, a16, a17, a18, a19], _ => exact ⟨a0, a1, a2, a3, a4, a5, a6, a7, a8, a9, a10, a11, a12, a13, a14, a15, a16, a17, a18, a19, rfl⟩
theorem built_file (p f : ByteArray) (a0 a1 a2 a3 a4 a5 a6 a7 a8 a9 a10 a11 a12 a13 a14 a15 a16 a17 a18 a19 : Int) : Tryd.prog.built 32 [(0, .string p), (1, .agg #[.int .u8 a0, .int .u8 a1, .int .u8 a2, .int .u8 a3, .int .u8 a4, .int .u8 a5, .int .u8 a6, .int .u8 a7, .int .u8 a8, .int .u8 a9, .int .u8 a10, .int .u8 a11, .int .u8 a12, .int .u8 a13, .int .u8 a14, .int .u8 a15, .int .u8 a16, .int .u8 a17, .int .u8 a18, .int .u8 a19]), (2, .string f)] = some (fileA ⟨p, [a0, a1, a2, a3, a4, a5, a6, a7, a8, a9, a10, a11, a12, a13, a14, a15, a16, a17, a18, a19], f⟩) := by kernel_rfl
theorem built_rfile (p f : ByteArray) (a0 a1 a2 a3 a4 a5 a6 a7 a8 a9 a10 a11 a12 a13 a14 a15 a16 a17 a18 a19 : Int) : Tryd.prog.built 45 [(0, .string p), (1, .agg #[.int .u8 a0, .int .u8 a1, .int .u8 a2, .int .u8 a3, .int .u8 a4, .int .u8 a5, .int .u8 a6, .int .u8 a7, .int .u8 a8, .int .u8 a9, .int .u8 a10, .int .u8 a11, .int .u8 a12, .int .u8 a13, .int .u8 a14, .int .u8 a15, .int .u8 a16, .int .u8 a17, .int .u8 a18, .int .u8 a19]), (2, .string f)] = some (fileA ⟨p, [a0, a1, a2, a3, a4, a5, a6, a7, a8, a9, a10, a11, a12, a13, a14, a15, a16, a17, a18, a19], f⟩) := by kernel_rfl
theorem build_file (p f : ByteArray) (n : List Int) (h : n.length = 20) (W : World) : (Instr.build 32 #[(0, .string p), (1, .agg (V8 n)), (2, .string f)]).run Tryd.prog W = .ok (.agg (fileA ⟨p, n, f⟩)) W := by
  obtain ⟨a0, a1, a2, a3, a4, a5, a6, a7, a8, a9, a10, a11, a12, a13, a14, a15, a16, a17, a18, a19, rfl⟩ := list20 h
  exact run_build W _ _ _ (built_file p f a0 a1 a2 a3 a4 a5 a6 a7 a8 a9 a10 a11 a12 a13 a14 a15 a16 a17 a18 a19)
theorem build_rfile (p f : ByteArray) (n : List Int) (h : n.length = 20) (W : World) : (Instr.build 45 #[(0, .string p), (1, .agg (V8 n)), (2, .string f)]).run Tryd.prog W = .ok (.agg (fileA ⟨p, n, f⟩)) W := by
  obtain ⟨a0, a1, a2, a3, a4, a5, a6, a7, a8, a9, a10, a11, a12, a13, a14, a15, a16, a17, a18, a19, rfl⟩ := list20 h
  exact run_build W _ _ _ (built_rfile p f a0 a1 a2 a3 a4 a5 a6 a7 a8 a9 a10 a11 a12 a13 a14 a15 a16 a17 a18 a19)
theorem zero_file (W : World) : (zeroValue 32).run Tryd.prog W = .ok (.agg (fileA noFile)) W := by kernel_rfl
theorem fzero_id (W : World) : (zeroValue 30).run Tryd.prog W = .ok (.agg (V8 zeros20)) W := by kernel_rfl
theorem zero_id20 (W : World) : (zeroValue 29).run Tryd.prog W = .ok (.agg (V8 zeros20)) W := by kernel_rfl
theorem zeros20_len : zeros20.length = 20 := by decide +kernel
theorem fill_file (x : MF) (zs : Array Value) (hz : zs.size = 22) (hx : x.n.length = 20) : Instr.fill (fun i => some (i * 22, 22)) zs [(0, .agg (fileA x))] = some (fileA x) := by
  have := fill_whole (s := 22) (by omega) [.agg (fileA x)] zs (fun v hv => by rw [List.mem_singleton.1 hv]; show (fileA x).size = 22; rw [fileA_size x hx]) (by rw [hz]; rfl)
  simpa [Value.cells] using this
theorem parts_file : ∃ i, Tryd.prog.info? 32 = some i ∧ i.zero = some (.agg (fileA noFile)) ∧ i.size = 22 ∧ i.bytes = 56 := by
  have h : (Tryd.prog.info? 32).map (fun i => (i.zero, i.size, i.bytes)) = some (some (.agg (fileA noFile)), 22, 56) := by kernel_rfl
  obtain ⟨i, hi, he⟩ := Option.map_eq_some_iff.1 h
  simp only [Prod.mk.injEq] at he
  exact ⟨i, hi, he⟩
theorem parts_rfile : ∃ i, Tryd.prog.info? 45 = some i ∧ i.zero = some (.agg (fileA noFile)) ∧ i.size = 22 ∧ i.bytes = 56 := by
  have h : (Tryd.prog.info? 45).map (fun i => (i.zero, i.size, i.bytes)) = some (some (.agg (fileA noFile)), 22, 56) := by kernel_rfl
  obtain ⟨i, hi, he⟩ := Option.map_eq_some_iff.1 h
  simp only [Prod.mk.injEq] at he
  exact ⟨i, hi, he⟩
theorem slice_file (x : MF) (hx : x.n.length = 20) (W : World) : (Instr.buildSlice 23 1 #[(0, .agg (fileA x))]).run Tryd.prog W = .ok (.slice (some ⟨W.heap.size, 0, none⟩) 1 1) (W.alloc (.cells (fileA x) 32)) := by
  obtain ⟨i, hi, hz, h1, -⟩ := parts_file
  refine run_buildSlice W _ _ _ _ _ i _ Tryd.underlying23 hi hz (by rw [h1]; decide) (by rw [h1]; decide) ?_
  rw [h1]
  exact fill_file x _ (by simp) hx
theorem slice_rfile (x : MF) (hx : x.n.length = 20) (W : World) : (Instr.buildSlice 22 1 #[(0, .agg (fileA x))]).run Tryd.prog W = .ok (.slice (some ⟨W.heap.size, 0, none⟩) 1 1) (W.alloc (.cells (fileA x) 45)) := by
  obtain ⟨i, hi, hz, h1, -⟩ := parts_rfile
  refine run_buildSlice W _ _ _ _ _ i _ Tryd.underlying22 hi hz (by rw [h1]; decide) (by rw [h1]; decide) ?_
  rw [h1]
  exact fill_file x _ (by simp) hx
theorem box_file (w : World) (x : MF) (t : TypeId) : (w.alloc (.cells (fileA x) t)).rangeAt w.heap.size 0 (fileL x) := fun j v hv => by
  rw [cell_of_row _ _ _ _ _ _ (heap_alloc_new w _), Nat.zero_add, ← hv]
  simp [fileA]
theorem row_file {w : World} {g : Nat} {x : MF} {t : TypeId} {fr : Nat × Nat} (h : w.heap[g]? = some (.cells (fileA x) t fr)) : w.rangeAt g 0 (fileL x) := fun j v hv => by
  rw [cell_of_row _ _ _ _ _ _ h, Nat.zero_add, ← hv]
  simp [fileA]
theorem row_id {w : World} {g : Nat} {n : List Int} {t : TypeId} {fr : Nat × Nat} (h : w.heap[g]? = some (.cells (V8 n) t fr)) : w.rangeAt g 0 (U8 n) := fun j v hv => by
  rw [cell_of_row _ _ _ _ _ _ h, Nat.zero_add, ← hv]
  simp [V8]
/-! ### One more -/
theorem step_append_file {w : World} {ops : Array Oper} {o : Oper} {ac : Act} {K : Act → World → Prop} {Q : Exit → Act → World → Prop} {E : Prop} (hgd : o.guard = none) (s x : Operand)
    (ho : o.op = .call { callee := .builtin .append, args := #[s, x], argTypes := #[23, 23] })
    (base : Nat) (v : Value) (xs : List MF) (n : Nat) (hn : xs.length = n) (hs : ac.eval s = v) (hown : OwnF 32 w base v xs) (g0 : Nat) (y : MF) (hy20 : y.n.length = 20) (hx : ac.eval x = .slice (some ⟨g0, 0, none⟩) 1 1) (hy : w.rangeAt g0 0 (fileL y))
    (hsum : n + 1 ≤ 1000001) (hbase : base ≤ w.heap.size)
    (h : ∀ g c w', OwnF 32 w' base (.slice (some ⟨g, 0, none⟩) (n + 1) c) (xs ++ [y]) → w.grownBy w' v.ownBlock → (v.ownBlock = some g ∨ g = w.heap.size) → g < w'.heap.size → K (ac.put o.dst (.slice (some ⟨g, 0, none⟩) (n + 1) c)) w') :
    if Region.wanted o (yielded ops ac.tmps) = true then Oper.wp Tryd.prog o ac w K Q else E := by
  obtain ⟨i, hi, hz, h1, h8⟩ := parts_file
  subst hn
  refine step_append_lies w hgd s x 23 ho base 32 i (.agg (fileA noFile)) 22 56 Tryd.underlying23 hi hz h1 h8 (by show (fileA noFile).size = 22; rw [fileA_size _ zeros20_len]) (by omega) v xs.length _ hs hown.1 ⟨g0, 0, none⟩ 1 1 (fileL y) hx (by rw [fileL_len y hy20]) ?_ (fileL_one y) (by omega) (by unfold maxLen; omega) (by omega) hbase _ rfl fun g c w' a1 a2 a3 a4 => ?_
  · intro j u hu
    rw [Addr.add_mid]
    exact hy j u hu
  · have e : flatF xs ++ fileL y = flatF (xs ++ [y]) := by rw [flatF_append, flatF_one]
    refine h g c w' ⟨?_, fun q hq => ?_⟩ a2 a3 a4
    · rw [← e, List.length_append, List.length_singleton]; exact a1
    · rcases List.mem_append.1 hq with hq | hq
      · exact hown.2 q hq
      · rw [List.mem_singleton.1 hq]; exact hy20
theorem step_append_rfile {w : World} {ops : Array Oper} {o : Oper} {ac : Act} {K : Act → World → Prop} {Q : Exit → Act → World → Prop} {E : Prop} (hgd : o.guard = none) (s x : Operand)
    (ho : o.op = .call { callee := .builtin .append, args := #[s, x], argTypes := #[22, 22] })
    (base : Nat) (v : Value) (xs : List MF) (n : Nat) (hn : xs.length = n) (hs : ac.eval s = v) (hown : OwnF 45 w base v xs) (g0 : Nat) (y : MF) (hy20 : y.n.length = 20) (hx : ac.eval x = .slice (some ⟨g0, 0, none⟩) 1 1) (hy : w.rangeAt g0 0 (fileL y))
    (hsum : n + 1 ≤ 1000001) (hbase : base ≤ w.heap.size)
    (h : ∀ g c w', OwnF 45 w' base (.slice (some ⟨g, 0, none⟩) (n + 1) c) (xs ++ [y]) → w.grownBy w' v.ownBlock → (v.ownBlock = some g ∨ g = w.heap.size) → g < w'.heap.size → K (ac.put o.dst (.slice (some ⟨g, 0, none⟩) (n + 1) c)) w') :
    if Region.wanted o (yielded ops ac.tmps) = true then Oper.wp Tryd.prog o ac w K Q else E := by
  obtain ⟨i, hi, hz, h1, h8⟩ := parts_rfile
  subst hn
  refine step_append_lies w hgd s x 22 ho base 45 i (.agg (fileA noFile)) 22 56 Tryd.underlying22 hi hz h1 h8 (by show (fileA noFile).size = 22; rw [fileA_size _ zeros20_len]) (by omega) v xs.length _ hs hown.1 ⟨g0, 0, none⟩ 1 1 (fileL y) hx (by rw [fileL_len y hy20]) ?_ (fileL_one y) (by omega) (by unfold maxLen; omega) (by omega) hbase _ rfl fun g c w' a1 a2 a3 a4 => ?_
  · intro j u hu
    rw [Addr.add_mid]
    exact hy j u hu
  · have e : flatF xs ++ fileL y = flatF (xs ++ [y]) := by rw [flatF_append, flatF_one]
    refine h g c w' ⟨?_, fun q hq => ?_⟩ a2 a3 a4
    · rw [← e, List.length_append, List.length_singleton]; exact a1
    · rcases List.mem_append.1 hq with hq | hq
      · exact hown.2 q hq
      · rw [List.mem_singleton.1 hq]; exact hy20
/-! ### Operations of a drawn region -/
theorem yieldsIf_load_str {P : Program} {ops : Array Oper} {S : World → Prop} {op : Oper} {a : Act} (hw : Region.wanted op (yielded ops a.tmps) = true) (ty : TypeId) (x : Operand) (ho : op.op = .load ty x)
    (b o : Nat) (hx : a.eval x = .pointer (some ⟨b, o, none⟩)) (s : ByteArray) (hS : ∀ w, S w → w.cell? ⟨b, o, none⟩ = some (.string s)) (hu : P.underlying ty = some .string) : YieldsIf P ops S op (.string s) a :=
  .inl ⟨hw, fun W hW => by
    have hc := hS W hW
    unfold execOp
    simp only [ho, hx]
    simp [Instr.loadAt, Instr.sureAddr, loadVar, isAgg, run_underlying hu, hc]⟩
theorem yieldsIf_build {P : Program} {ops : Array Oper} {S : World → Prop} {op : Oper} {a : Act} (hw : Region.wanted op (yielded ops a.tmps) = true) (ty : TypeId) (ps : Array (Nat × Operand)) (ho : op.op = .build ty ps)
    (qs : Array (Nat × Value)) (hq : (ps.map fun (i, x) => (i, a.eval x)) = qs) (v : Value) (hr : ∀ W, (Instr.build ty qs).run P W = .ok v W) : YieldsIf P ops S op v a :=
  .inl ⟨hw, fun W _ => by
    unfold execOp
    simp only [ho, Sem.run_bind, hq, hr, Result.andThen_ok]
    rfl⟩
theorem step_slice {P : Program} {w : World} {ops : Array Oper} {o : Oper} {a : Act} {K : Act → World → Prop} {Q : Exit → Act → World → Prop} {E : Prop} (hw : Region.wanted o (yielded ops a.tmps) = true) (ty : TypeId) (len : Nat) (ps : Array (Nat × Operand)) (ho : o.op = .buildSlice ty len ps)
    (qs : Array (Nat × Value)) (hq : (ps.map fun (i, x) => (i, a.eval x)) = qs) (v : Value) (w' : World) (hr : (Instr.buildSlice ty len qs).run P w = .ok v w') (h : K (a.put o.dst v) w') : if Region.wanted o (yielded ops a.tmps) = true then Oper.wp P o a w K Q else E := by
  rw [if_pos hw]
  unfold Oper.wp execOp
  simp only [ho, Sem.run_bind, hq, hr, Result.andThen_ok]
  exact h
theorem take_snoc {α : Type} {ps : List α} {k : Nat} {p : α} (h : ps[k]? = some p) : ps.take (k + 1) = ps.take k ++ [p] := by rw [List.take_add_one, h]; rfl
theorem map_one (a : Act) (x : Operand) (v : Value) (h : a.eval x = v) : (#[(0, x)] : Array (Nat × Operand)).map (fun (i, x) => (i, a.eval x)) = #[(0, v)] := by simp [h]
theorem map_three (a : Act) (x y z : Operand) (u v t : Value) (h1 : a.eval x = u) (h2 : a.eval y = v) (h3 : a.eval z = t) : (#[(0, x), (1, y), (2, z)] : Array (Nat × Operand)).map (fun (i, x) => (i, a.eval x)) = #[(0, u), (1, v), (2, t)] := by simp [h1, h2, h3]
end Go.Proofs.YtcbjadecocggjaaDoor
