/- Pairs of ids: forty bytes each; rows of them; what came in. -/
import Derived.Test.YtlhdjbnilfbaoaaRows
import Derived.WalkKit
import Derived.ProofKit
import Derived.OpenShut
import Derived.Below
import Derived.LoopN
import Derived.Lib.SmallJoins
import Derived.Laws.BytesArg
import Derived.Laws.AppendOwnNone
import Derived.Deep.AppendLies
import Derived.ChangeKeysEq
import Derived.Deep.MidRow
import Derived.Deep.RegionHeld3
import Derived.Great.BuildSlice
import Derived.ChangeArms
import Derived.ChangeSlices
import Derived.ChangeAt
import Derived.Test.YtlhdjbnilfbaoaaMid
import Derived.Test.YtlhdjbnilfbaoaaV8
import Derived.Test.YtlhdjbnilfbaoaaEq
namespace Go.Proofs.Ytlhdjbnilfbaoaa
open Go.RowKit Go.ChangeShapes Go.WideShapes Go.ChangeAt Go.Great
set_option linter.unusedVariables false
/-- The number in a cell. -/
def mnumOf : Option Value → Int
  | some (.int _ n) => n
  | _ => 0
/-- The cells of a row of pairs. -/
def flat (ps : List (List Int)) : List Value := U8 ps.flatten
theorem flat_append (ps qs : List (List Int)) : flat (ps ++ qs) = flat ps ++ flat qs := by unfold flat; rw [List.flatten_append, U8_append]
theorem flat_one (p : List Int) : flat [p] = U8 p := by unfold flat; simp
theorem flat_len : ∀ (ps : List (List Int)), (∀ p ∈ ps, p.length = 40) → (flat ps).length = ps.length * 40
  | [], _ => rfl
  | p :: ps, h => by
    have := flat_len ps fun q hq => h q (by simp [hq])
    have e : flat (p :: ps) = U8 p ++ flat ps := by unfold flat; rw [List.flatten_cons, U8_append]
    rw [e, List.length_append, U8_length, h p (by simp), this, List.length_cons]; omega
theorem flat_get : ∀ (ps : List (List Int)) (j i : Nat) (p : List Int), (∀ p ∈ ps, p.length = 40) → ps[j]? = some p → i < 40 → (flat ps)[j * 40 + i]? = (U8 p)[i]?
  | [], j, i, p, _, h, _ => by simp at h
  | q :: ps, 0, i, p, h40, h, hi => by
    simp at h
    subst h
    have e : flat (q :: ps) = U8 q ++ flat ps := by unfold flat; rw [List.flatten_cons, U8_append]
    rw [e, Nat.zero_mul, Nat.zero_add, List.getElem?_append_left (by rw [U8_length, h40 q (by simp)]; exact hi)]
  | q :: ps, j + 1, i, p, h40, h, hi => by
    have e : flat (q :: ps) = U8 q ++ flat ps := by unfold flat; rw [List.flatten_cons, U8_append]
    have hq := h40 q (by simp)
    rw [e, List.getElem?_append_right (by rw [U8_length, hq]; omega), U8_length, hq, show (j + 1) * 40 + i - 40 = j * 40 + i by omega]
    exact flat_get ps j i p (fun r hr => h40 r (by simp [hr])) (by simpa using h) hi
/-- Pairs that lie in a row. -/
structure PsAt (w : World) (a : Option Addr) (ps : List (List Int)) : Prop where
  each : ∀ p ∈ ps, p.length = 40
  rows : ps.length = 0 ∨ ∃ b off, a = some ⟨b, off, none⟩ ∧ b < w.heap.size ∧ ∀ j p, ps[j]? = some p → w.rangeAt b (off + j * 40) (U8 p)
theorem range_below {w w' : World} {b o n : Nat} {cs : List Value} (h : w.rangeAt b o cs) (hb : Below n w w') (hn : b < n) : w'.rangeAt b o cs := fun j v hj => (hb.cell (p := ⟨b, o + j, none⟩) hn).trans (h j v hj)
theorem PsAt.below {w w' : World} {a : Option Addr} {ps : List (List Int)} (h : PsAt w a ps) (hb : Below w.heap.size w w') : PsAt w' a ps :=
  ⟨h.each, h.rows.imp id fun ⟨b, off, e, hl, hc⟩ => ⟨b, off, e, Nat.lt_of_lt_of_le hl hb.size, fun j p hj => range_below (hc j p hj) hb hl⟩⟩
theorem PsAt.at {w : World} {a : Option Addr} {ps : List (List Int)} (h : PsAt w a ps) {k : Nat} (hk : k < ps.length) : ∃ b off p, a = some ⟨b, off, none⟩ ∧ ps[k]? = some p ∧ p.length = 40 ∧ b < w.heap.size ∧ w.rangeAt b (off + k * 40) (U8 p) := by
  rcases h.rows with h0 | ⟨b, off, rfl, hl, hc⟩
  · omega
  · have hg : ps[k]? = some (ps[k]'hk) := List.getElem?_eq_getElem hk
    exact ⟨b, off, _, rfl, hg, h.each _ (List.mem_of_getElem? hg), hl, hc k _ hg⟩
theorem range_git {w : World} {b o : Nat} {p : List Int} (h : w.rangeAt b o (U8 p)) : w.rangeAt b o (U8 (p.take 20)) := fun j v hj => h j v (by
  unfold U8 at hj ⊢
  rw [List.map_take] at hj
  rw [← hj, List.getElem?_take_of_lt (by
    have := (List.getElem?_eq_some_iff.1 hj).1
    rw [List.length_take] at this; omega)])
theorem range_hg {w : World} {b o : Nat} {p : List Int} (h : w.rangeAt b o (U8 p)) : w.rangeAt b (o + 20) (U8 (p.drop 20)) := fun j v hj => by
  rw [Nat.add_assoc]
  refine h (20 + j) v ?_
  unfold U8 at hj ⊢
  rw [List.map_drop, List.getElem?_drop] at hj
  exact hj
/-- Pairs in a row of the call's own. -/
def OwnP (e : TypeId) (w : World) (base : Nat) (v : Value) (ps : List (List Int)) : Prop := w.ownsRow base e 40 v ps.length (flat ps) ∧ ∀ p ∈ ps, p.length = 40
theorem OwnP.at {e : TypeId} {w : World} {base : Nat} {v : Value} {ps : List (List Int)} (h : OwnP e w base v ps) : ∃ a c, v = .slice a ps.length c ∧ PsAt w a ps ∧ ps.length ≤ c ∧ (a = none → c = 0) := by
  obtain ⟨h1, h40⟩ := h
  obtain ⟨h2, ⟨rfl, h0⟩ | ⟨g, cap, cur, rfl, h3, h4, h5, h6, h7, h8⟩⟩ := id h1
  · rw [h0]; exact ⟨none, 0, rfl, ⟨h40, .inl h0⟩, by omega, fun _ => rfl⟩
  · refine ⟨some ⟨g, 0, none⟩, cap, rfl, ⟨h40, .inr ⟨g, 0, rfl, (Array.getElem?_eq_some_iff.1 h4).1, fun j p hj i v hv => ?_⟩⟩, h5, fun e => by cases e⟩
    have hjl : j < ps.length := (List.getElem?_eq_some_iff.1 hj).1
    have hi : i < 40 := by
      have := (List.getElem?_eq_some_iff.1 hv).1
      rw [U8_length, h40 p (List.mem_of_getElem? hj)] at this; exact this
    rw [Nat.zero_add, h1.cellAt (j * 40 + i) (by omega), flat_get ps j i p h40 hj hi, hv]
theorem OwnP.lt {e : TypeId} {w : World} {base : Nat} {v : Value} {ps : List (List Int)} (h : OwnP e w base v ps) {g : Nat} (hg : v.ownBlock = some g) : base ≤ g ∧ g < w.heap.size := h.1.lt g hg
theorem OwnP.below {e : TypeId} {w w' : World} {base : Nat} {v : Value} {ps : List (List Int)} (h : OwnP e w base v ps) (hb : Below w.heap.size w w') : OwnP e w' base v ps := by
  obtain ⟨⟨h1, h2 | ⟨g, cap, cur, h3, h4, h5, h6⟩⟩, h40⟩ := h
  · exact ⟨⟨h1, .inl h2⟩, h40⟩
  · exact ⟨⟨h1, .inr ⟨g, cap, cur, h3, h4, (hb.block g (Array.getElem?_eq_some_iff.1 h5).1).trans h5, h6⟩⟩, h40⟩
theorem OwnP.lower {e : TypeId} {w : World} {base base' : Nat} {v : Value} {ps : List (List Int)} (h : OwnP e w base v ps) (hb : base' ≤ base) : OwnP e w base' v ps :=
  ⟨⟨h.1.1, h.1.2.imp id fun ⟨g, cap, cur, e1, h1, r⟩ => ⟨g, cap, cur, e1, Nat.le_trans hb h1, r⟩⟩, h.2⟩
theorem OwnP.nil (e : TypeId) (w : World) (base : Nat) : OwnP e w base (.slice none 0 0) [] := ⟨World.ownsRow_nil _ _ _ _, by simp⟩
/-! ### Values -/
theorem mid_info : ∀ xs : List Int, xs.length = 20 → (Try.prog.info? 42).map (·.size) = some (V8 xs).size := fun xs h => by rw [V8_size, h]; kernel_rfl
theorem id24_info : ∀ xs : List Int, xs.length = 20 → (Try.prog.info? 41).map (·.size) = some (V8 xs).size := fun xs h => by rw [V8_size, h]; kernel_rfl
theorem pair_info : ∀ xs : List Int, xs.length = 40 → (Try.prog.info? 46).map (·.size) = some (V8 xs).size := fun xs h => by rw [V8_size, h]; kernel_rfl
theorem rpair_info : ∀ xs : List Int, xs.length = 40 → (Try.prog.info? 44).map (·.size) = some (V8 xs).size := fun xs h => by rw [V8_size, h]; kernel_rfl
theorem list20 {xs : List Int} (h : xs.length = 20) : ∃ a0 a1 a2 a3 a4 a5 a6 a7 a8 a9 a10 a11 a12 a13 a14 a15 a16 a17 a18 a19 : Int, xs = [a0, a1, a2, a3, a4, a5, a6, a7, a8, a9, a10, a11, a12, a13, a14, a15, a16, a17, a18, a19] := by
  match xs, h with
  | [a0, a1, a2, a3, a4, a5, a6, a7, a8, a9, a10, a11, a12, a13, a14, a15, a16, a17, a18, a19], _ => exact ⟨a0, a1, a2, a3, a4, a5, a6, a7, a8, a9, a10, a11, a12, a13, a14, a15, a16, a17, a18, a19, rfl⟩
theorem built_pair (a0 a1 a2 a3 a4 a5 a6 a7 a8 a9 a10 a11 a12 a13 a14 a15 a16 a17 a18 a19 b0 b1 b2 b3 b4 b5 b6 b7 b8 b9 b10 b11 b12 b13 b14 b15 b16 b17 b18 b19 : Int) : Try.prog.built 46 [(0, .agg #[.int .u8 a0, .int .u8 a1, .int .u8 a2, .int .u8 a3, .int .u8 a4, .int .u8 a5, .int .u8 a6, .int .u8 a7, .int .u8 a8, .int .u8 a9, .int .u8 a10, .int .u8 a11, .int .u8 a12, .int .u8 a13, .int .u8 a14, .int .u8 a15, .int .u8 a16, .int .u8 a17, .int .u8 a18, .int .u8 a19]), (1, .agg #[.int .u8 b0, .int .u8 b1, .int .u8 b2, .int .u8 b3, .int .u8 b4, .int .u8 b5, .int .u8 b6, .int .u8 b7, .int .u8 b8, .int .u8 b9, .int .u8 b10, .int .u8 b11, .int .u8 b12, .int .u8 b13, .int .u8 b14, .int .u8 b15, .int .u8 b16, .int .u8 b17, .int .u8 b18, .int .u8 b19])] = some #[.int .u8 a0, .int .u8 a1, .int .u8 a2, .int .u8 a3, .int .u8 a4, .int .u8 a5, .int .u8 a6, .int .u8 a7, .int .u8 a8, .int .u8 a9, .int .u8 a10, .int .u8 a11, .int .u8 a12, .int .u8 a13, .int .u8 a14, .int .u8 a15, .int .u8 a16, .int .u8 a17, .int .u8 a18, .int .u8 a19, .int .u8 b0, .int .u8 b1, .int .u8 b2, .int .u8 b3, .int .u8 b4, .int .u8 b5, .int .u8 b6, .int .u8 b7, .int .u8 b8, .int .u8 b9, .int .u8 b10, .int .u8 b11, .int .u8 b12, .int .u8 b13, .int .u8 b14, .int .u8 b15, .int .u8 b16, .int .u8 b17, .int .u8 b18, .int .u8 b19] := by kernel_rfl
theorem built_rpair (a0 a1 a2 a3 a4 a5 a6 a7 a8 a9 a10 a11 a12 a13 a14 a15 a16 a17 a18 a19 b0 b1 b2 b3 b4 b5 b6 b7 b8 b9 b10 b11 b12 b13 b14 b15 b16 b17 b18 b19 : Int) : Try.prog.built 44 [(0, .agg #[.int .u8 a0, .int .u8 a1, .int .u8 a2, .int .u8 a3, .int .u8 a4, .int .u8 a5, .int .u8 a6, .int .u8 a7, .int .u8 a8, .int .u8 a9, .int .u8 a10, .int .u8 a11, .int .u8 a12, .int .u8 a13, .int .u8 a14, .int .u8 a15, .int .u8 a16, .int .u8 a17, .int .u8 a18, .int .u8 a19]), (1, .agg #[.int .u8 b0, .int .u8 b1, .int .u8 b2, .int .u8 b3, .int .u8 b4, .int .u8 b5, .int .u8 b6, .int .u8 b7, .int .u8 b8, .int .u8 b9, .int .u8 b10, .int .u8 b11, .int .u8 b12, .int .u8 b13, .int .u8 b14, .int .u8 b15, .int .u8 b16, .int .u8 b17, .int .u8 b18, .int .u8 b19])] = some #[.int .u8 a0, .int .u8 a1, .int .u8 a2, .int .u8 a3, .int .u8 a4, .int .u8 a5, .int .u8 a6, .int .u8 a7, .int .u8 a8, .int .u8 a9, .int .u8 a10, .int .u8 a11, .int .u8 a12, .int .u8 a13, .int .u8 a14, .int .u8 a15, .int .u8 a16, .int .u8 a17, .int .u8 a18, .int .u8 a19, .int .u8 b0, .int .u8 b1, .int .u8 b2, .int .u8 b3, .int .u8 b4, .int .u8 b5, .int .u8 b6, .int .u8 b7, .int .u8 b8, .int .u8 b9, .int .u8 b10, .int .u8 b11, .int .u8 b12, .int .u8 b13, .int .u8 b14, .int .u8 b15, .int .u8 b16, .int .u8 b17, .int .u8 b18, .int .u8 b19] := by kernel_rfl
theorem build_pair (g h : List Int) (hg : g.length = 20) (hh : h.length = 20) (W : World) : (Instr.build 46 #[(0, .agg (V8 g)), (1, .agg (V8 h))]).run Try.prog W = .ok (.agg (V8 (g ++ h))) W := by
  obtain ⟨a0, a1, a2, a3, a4, a5, a6, a7, a8, a9, a10, a11, a12, a13, a14, a15, a16, a17, a18, a19, rfl⟩ := list20 hg
  obtain ⟨b0, b1, b2, b3, b4, b5, b6, b7, b8, b9, b10, b11, b12, b13, b14, b15, b16, b17, b18, b19, rfl⟩ := list20 hh
  exact run_build W _ _ _ (built_pair a0 a1 a2 a3 a4 a5 a6 a7 a8 a9 a10 a11 a12 a13 a14 a15 a16 a17 a18 a19 b0 b1 b2 b3 b4 b5 b6 b7 b8 b9 b10 b11 b12 b13 b14 b15 b16 b17 b18 b19)
theorem build_rpair (g h : List Int) (hg : g.length = 20) (hh : h.length = 20) (W : World) : (Instr.build 44 #[(0, .agg (V8 g)), (1, .agg (V8 h))]).run Try.prog W = .ok (.agg (V8 (g ++ h))) W := by
  obtain ⟨a0, a1, a2, a3, a4, a5, a6, a7, a8, a9, a10, a11, a12, a13, a14, a15, a16, a17, a18, a19, rfl⟩ := list20 hg
  obtain ⟨b0, b1, b2, b3, b4, b5, b6, b7, b8, b9, b10, b11, b12, b13, b14, b15, b16, b17, b18, b19, rfl⟩ := list20 hh
  exact run_build W _ _ _ (built_rpair a0 a1 a2 a3 a4 a5 a6 a7 a8 a9 a10 a11 a12 a13 a14 a15 a16 a17 a18 a19 b0 b1 b2 b3 b4 b5 b6 b7 b8 b9 b10 b11 b12 b13 b14 b15 b16 b17 b18 b19)
def noPair : List Int := [0, 0, 0, 0, 0, 0, 0, 0, 0, 0, 0, 0, 0, 0, 0, 0, 0, 0, 0, 0, 0, 0, 0, 0, 0, 0, 0, 0, 0, 0, 0, 0, 0, 0, 0, 0, 0, 0, 0, 0]
def noId : List Int := [0, 0, 0, 0, 0, 0, 0, 0, 0, 0, 0, 0, 0, 0, 0, 0, 0, 0, 0, 0]
theorem build_none (W : World) : (Instr.build 46 #[]).run Try.prog W = .ok (.agg (V8 noPair)) W := by kernel_rfl
theorem build_noId (W : World) : (Instr.build 42 #[]).run Try.prog W = .ok (.agg (V8 noId)) W := by kernel_rfl
theorem zero_pair (W : World) : (zeroValue 46).run Try.prog W = .ok (.agg (V8 noPair)) W := by kernel_rfl
theorem mzero_id (W : World) : (zeroValue 42).run Try.prog W = .ok (.agg (V8 noId)) W := by kernel_rfl
theorem fill_one (p : List Int) (zs : Array Value) (hz : zs.size = 40) (hp : p.length = 40) : Instr.fill (fun i => some (i * 40, 40)) zs [(0, .agg (V8 p))] = some (V8 p) := by
  have := fill_whole (s := 40) (by omega) [.agg (V8 p)] zs (fun v hv => by rw [List.mem_singleton.1 hv]; show (V8 p).size = 40; rw [V8_size, hp]) (by rw [hz]; rfl)
  simpa [Value.cells] using this
theorem slice_one (p : List Int) (hp : p.length = 40) (W : World) : (Instr.buildSlice 24 1 #[(0, .agg (V8 p))]).run Try.prog W = .ok (.slice (some ⟨W.heap.size, 0, none⟩) 1 1) (W.alloc (.cells (V8 p) 46)) := by
  obtain ⟨i, hi, hz, h1⟩ : ∃ i, Try.prog.info? 46 = some i ∧ i.zero = some (.agg (V8 noPair)) ∧ i.size = 40 := by
    have h : (Try.prog.info? 46).map (fun i => (i.zero, i.size)) = some (some (.agg (V8 noPair)), 40) := by kernel_rfl
    obtain ⟨i, hi, he⟩ := Option.map_eq_some_iff.1 h
    simp only [Prod.mk.injEq] at he
    exact ⟨i, hi, he⟩
  refine run_buildSlice W _ _ _ _ _ i _ Try.underlying24 hi hz (by rw [h1]; decide) (by rw [h1]; decide) ?_
  rw [h1]
  exact fill_one p _ (by simp) hp
theorem slice_rone (p : List Int) (hp : p.length = 40) (W : World) : (Instr.buildSlice 22 1 #[(0, .agg (V8 p))]).run Try.prog W = .ok (.slice (some ⟨W.heap.size, 0, none⟩) 1 1) (W.alloc (.cells (V8 p) 44)) := by
  obtain ⟨i, hi, hz, h1⟩ : ∃ i, Try.prog.info? 44 = some i ∧ i.zero = some (.agg (V8 noPair)) ∧ i.size = 40 := by
    have h : (Try.prog.info? 44).map (fun i => (i.zero, i.size)) = some (some (.agg (V8 noPair)), 40) := by kernel_rfl
    obtain ⟨i, hi, he⟩ := Option.map_eq_some_iff.1 h
    simp only [Prod.mk.injEq] at he
    exact ⟨i, hi, he⟩
  refine run_buildSlice W _ _ _ _ _ i _ Try.underlying22 hi hz (by rw [h1]; decide) (by rw [h1]; decide) ?_
  rw [h1]
  exact fill_one p _ (by simp) hp
/-! ### What came in -/
theorem trod_ids {H : Type} {enc : TypeId × Value → H} {w : World} {base : Nat} {held : Bool} {t : TypeId} {n fuel : Nat} {cs : List Value} {y : DataW H × List MemPlace}
    (ht : Try.prog.underlying t = some (.array n 5)) (hl : cs.length = n) (h : DataW.trod enc Try.prog w base (fun _ => true) held fuel t cs = some y) :
    ∃ zs : List Int, cs = U8 zs ∧ zs.length = n ∧ ∀ z ∈ zs, 0 ≤ z ∧ z ≤ 255 := by
  obtain ⟨xs, m, -, -, -, hxl, hget⟩ := DataW.trod_array ht h
  have hone : Try.prog.cellsOf 5 = 1 := by kernel_rfl
  have key : ∀ i, i < n → ∃ z : Int, cs[i]? = some (.int .u8 z) ∧ 0 ≤ z ∧ z ≤ 255 := by
    intro i hi
    have h1 := hget i hi
    rw [hone, Nat.mul_one] at h1
    have hi' : i < cs.length := by omega
    rw [List.getElem?_eq_getElem (by omega)] at h1
    have e : (List.drop i cs).take 1 = [cs[i]] := by
      rw [List.drop_eq_getElem_cons hi', List.take_succ_cons, List.take_zero]
    rw [e] at h1
    obtain ⟨z, hz, -, hw⟩ := DataW.trod_int Try.underlying5 h1
    exact ⟨z, by rw [List.getElem?_eq_getElem hi']; simpa using hz, bounds_u8 hw⟩
  refine ⟨(List.range n).map fun i => mnumOf cs[i]?, ?_, by simp, fun z hz => ?_⟩
  · apply List.ext_getElem?
    intro i
    unfold U8
    rw [List.map_map, List.getElem?_map]
    by_cases hi : i < n
    · obtain ⟨z, hz, -⟩ := key i hi
      rw [List.getElem?_range hi, hz]
      simp [hz, mnumOf]
    · rw [List.getElem?_eq_none (by omega), List.getElem?_eq_none (by simp; omega)]
      rfl
  · obtain ⟨i, hi, rfl⟩ := List.mem_map.1 hz
    obtain ⟨z, hz, h0⟩ := key i (List.mem_range.1 hi)
    rw [hz]
    exact h0
theorem open_pairs {H : Type} {enc : TypeId × Value → H} {w : World} {base b0 : Nat} {held : Bool} {r : Reach} {v : Value} {d : DataW H} {p : List MemPlace}
    (hv : Value.okWide Try.prog w r b0 22 v) (h : DataW.Trod enc Try.prog w base (fun _ => true) held 22 v d p) :
    ∃ (a : Option Addr) (cap : Nat) (ps : List (List Int)), v = .slice a ps.length cap ∧ ps.length ≤ 9223372036854775807 ∧ PsAt w a ps ∧ ∀ p ∈ ps, ∀ x ∈ p, 0 ≤ x ∧ x ≤ 255 := by
  obtain ⟨a, len, cap, rfl⟩ := okWide_slice Try.underlying22 hv
  obtain ⟨fuel, hf⟩ := h
  rcases DataW.trod_slice Try.underlying22 hf with ⟨hcs, -⟩ | ⟨x, len', cap', elems, rest, n, -, hcs, -, hb, hl, hm, hlen, hel, -, -⟩
  · simp [Value.cells] at hcs
    obtain ⟨rfl, rfl, rfl⟩ := hcs
    exact ⟨none, 0, [], rfl, by simp, ⟨by simp, .inl rfl⟩, by simp⟩
  · simp [Value.cells] at hcs
    obtain ⟨rfl, rfl, rfl⟩ := hcs
    have h40 : Try.prog.cellsOf 44 = 40 := by kernel_rfl
    have h20 : Try.prog.cellsOf 41 = 20 := by kernel_rfl
    have each : ∀ j, ∃ zs : List Int, j < len → zs.length = 40 ∧ (∀ z ∈ zs, 0 ≤ z ∧ z ≤ 255) ∧ ∀ i u, (U8 zs)[i]? = some u → w.cell? ((x.add (j * 40)).add i) = some u := by
      intro j
      by_cases hj : j < len
      · have e := hel j (by omega)
        rw [h40] at e
        obtain ⟨y, hy⟩ : ∃ y, elems[j]? = some y := ⟨_, List.getElem?_eq_getElem (by omega)⟩
        rw [hy, Option.bind_eq_some_iff] at e
        obtain ⟨cs', hcs', hst⟩ := e
        obtain ⟨-, hcl, hcc⟩ := World.cells?_some hcs'
        obtain ⟨xs, n', -, -, -, hxl, hget⟩ := DataW.trod_struct Try.underlying44 hst
        have hx2 : xs.length = 2 := hxl
        have g0 : DataW.trod enc Try.prog w base (fun _ => true) held n' 41 ((cs'.drop 0).take (Try.prog.cellsOf 41)) = xs[0]? := hget 0 _ rfl
        have g1 : DataW.trod enc Try.prog w base (fun _ => true) held n' 41 ((cs'.drop 20).take (Try.prog.cellsOf 41)) = xs[1]? := hget 1 _ rfl
        rw [h20, List.getElem?_eq_getElem (by omega)] at g0 g1
        have hcl' : cs'.length = 40 := hcl
        obtain ⟨z1, e1, l1, r1⟩ := trod_ids Try.underlying41 (by rw [List.drop_zero, List.length_take]; omega) g0
        obtain ⟨z2, e2, l2, r2⟩ := trod_ids Try.underlying41 (by rw [List.length_take, List.length_drop]; omega) g1
        refine ⟨z1 ++ z2, fun _ => ⟨by rw [List.length_append]; omega, fun z hz => (List.mem_append.1 hz).elim (r1 z) (r2 z), fun i u hu => ?_⟩⟩
        have ec : cs' = U8 (z1 ++ z2) := by
          rw [U8_append, ← e1, ← e2, List.drop_zero]
          conv => lhs; rw [← List.take_append_drop 20 cs']
          rw [List.take_of_length_le (l := cs'.drop 20) (by rw [List.length_drop]; omega)]
        rw [← ec] at hu
        have hil := (List.getElem?_eq_some_iff.1 hu).1
        have := hcc i (by omega)
        rw [this, hu]
      · exact ⟨[], fun h => absurd h hj⟩
    obtain ⟨f, hf2⟩ : ∃ f : Nat → List Int, ∀ j, j < len → (f j).length = 40 ∧ (∀ z ∈ f j, 0 ≤ z ∧ z ≤ 255) ∧ ∀ i u, (U8 (f j))[i]? = some u → w.cell? ((x.add (j * 40)).add i) = some u :=
      ⟨fun j => (each j).choose, fun j => (each j).choose_spec⟩
    have hll : ((List.range len).map f).length = len := by simp
    refine ⟨some x, cap, (List.range len).map f, by rw [hll], by rw [hll]; unfold maxLen at hm; omega, ⟨fun p hp => ?_, ?_⟩, fun p hp => ?_⟩
    · obtain ⟨j, hj, rfl⟩ := List.mem_map.1 hp
      exact (hf2 j (List.mem_range.1 hj)).1
    · rw [hll]
      by_cases h0 : len = 0
      · exact .inl h0
      · obtain ⟨b, off, spot⟩ := x
        have q0 := (hf2 0 (by omega))
        obtain ⟨u0, hu0⟩ : ∃ u, (U8 (f 0))[0]? = some u := ⟨_, List.getElem?_eq_getElem (by rw [U8_length, q0.1]; omega)⟩
        have c0 := q0.2.2 0 u0 hu0
        have hspot : spot = none := by simpa [Addr.add] using World.cell?_spot c0
        subst hspot
        have hplain : ∀ (o i : Nat), (⟨b, o, none⟩ : Addr).add i = ⟨b, o + i, none⟩ := fun o i => by unfold Addr.add; split <;> simp_all
        refine .inr ⟨b, off, rfl, ?_, fun j p hj i u hu => ?_⟩
        · rw [hplain, hplain] at c0
          exact World.block_lt_of_cell? w _ c0
        · have hjl : j < len := by
            have := (List.getElem?_eq_some_iff.1 hj).1
            rw [hll] at this; exact this
          rw [List.getElem?_map, List.getElem?_range hjl] at hj
          injection hj with hj
          subst hj
          have := (hf2 j hjl).2.2 i u hu
          rw [hplain, hplain] at this
          exact this
    · obtain ⟨j, hj, rfl⟩ := List.mem_map.1 hp
      exact (hf2 j (List.mem_range.1 hj)).2.1
/-! ### Comparisons -/
theorem mrun_equalIn_arr (w : World) (d : Nat) (t : TypeId) (n : Nat) (ht : Try.prog.underlying t = some (.array n 5)) (xs ys : List Int) (hx : xs.length = n) (hy : ys.length = n) :
    (Op.equalIn (d + 2) t (.agg (V8 xs)) (.agg (V8 ys))).run Try.prog w = .ok (xs == ys) w := by
  obtain ⟨i, hi, -⟩ := Option.map_eq_some_iff.1 (show (Try.prog.info? 5).map (fun i => (i.zero, i.size, i.bytes)) = some (some (.int .u8 0), 1, 1) from by kernel_rfl)
  rw [run_equalIn_array w (d + 1) (V8 xs) (V8 ys) ht hi, u8cells, eqItems_u8 d w xs ys (List.range n) (fun j hj => by have := List.mem_range.1 hj; omega)]
  rw [all_eq_list xs ys n hx hy]
/-- 'x == y' of two ids. -/
theorem run_eql_id (w : World) (xs ys : List Int) (hx : xs.length = 20) (hy : ys.length = 20) :
    (binOp .eql 42 (.agg (V8 xs)) (.agg (V8 ys))).run Try.prog w = .ok (.bool (xs == ys)) w := by
  rw [run_eql_struct, mrun_equalIn_arr w 9998 42 20 Try.underlying42 xs ys hx hy]
  rfl
end Go.Proofs.Ytlhdjbnilfbaoaa
