/- Hunks that came in. -/
import Derived.Test.YtbkifjmfmiipnaaPrint
import Derived.ChangeArms
import Derived.ChangeSlices
import Derived.OpenShut
import Derived.ChangeAt
namespace Go.Proofs.Ytbkifjmfmiipnaa
open Go.RowKit Plain Go.ChangeShapes Go.WideShapes Go.ChangeAt
set_option linter.unusedVariables false
/-- The j-th hunk of a row as it came in. -/
def HunkIn (w : World) (b o j : Nat) (h : HkM) : Prop :=
  w.cell? ⟨b, o + j * 3, none⟩ = some (.int .i64 h.fr) ∧ w.cell? ⟨b, o + j * 3 + 1, none⟩ = some (.int .i64 h.to) ∧ w.cell? ⟨b, o + j * 3 + 2, none⟩ = some (.slice h.a h.ys.length h.c) ∧ h.ys.length ≤ h.c ∧ (h.a = none → h.c = 0) ∧ h.c ≤ 9223372036854775807 ∧
  (-9223372036854775808 ≤ h.fr ∧ h.fr ≤ 9223372036854775807) ∧ (-9223372036854775808 ≤ h.to ∧ h.to ≤ 9223372036854775807) ∧ Bytes w h.a h.ys.length h.ys
theorem open_hunks {H : Type} {enc : TypeId × Value → H} {w : World} {base b0 : Nat} {held : Bool} {r : Reach} {v : Value} {d : DataW H} {p : List MemPlace}
    (hv : Value.okWide Try.prog w r b0 23 v) (h : DataW.Trod enc Try.prog w base (fun _ => true) held 23 v d p) :
    ∃ (a : Option Addr) (len cap : Nat), v = .slice a len cap ∧ len ≤ 9223372036854775807 ∧ (len = 0 ∨ ∃ b o, a = some ⟨b, o, none⟩ ∧ b < w.heap.size ∧ ∀ j, j < len → ∃ hk : HkM, HunkIn w b o j hk) := by
  obtain ⟨a, len, cap, rfl⟩ := okWide_slice Try.underlying23 hv
  obtain ⟨fuel, hf⟩ := h
  rcases DataW.trod_slice Try.underlying23 hf with ⟨hcs, -⟩ | ⟨x, len', cap', elems, rest, n, -, hcs, -, hb, hl, hm, hlen, hel, -, -⟩
  · simp [Value.cells] at hcs
    obtain ⟨rfl, rfl, rfl⟩ := hcs
    exact ⟨none, 0, 0, rfl, by omega, .inl rfl⟩
  · simp [Value.cells] at hcs
    obtain ⟨rfl, rfl, rfl⟩ := hcs
    refine ⟨some x, len, cap, rfl, by unfold maxLen at hm; omega, ?_⟩
    by_cases h0 : len = 0
    · exact .inl h0
    · have h3 : Try.prog.cellsOf 26 = 3 := by kernel_rfl
      have c3 : Try.prog.cellsOf 3 = 1 := by kernel_rfl
      have c22 : Try.prog.cellsOf 22 = 1 := by kernel_rfl
      have each : ∀ j, j < len → ∃ (fr to : Int) (sl : Value), w.cell? (x.add (j * 3)) = some (.int .i64 fr) ∧ w.cell? ((x.add (j * 3)).add 1) = some (.int .i64 to) ∧ w.cell? ((x.add (j * 3)).add 2) = some sl ∧ (Lit.int .i64 fr).wf = true ∧ (Lit.int .i64 to).wf = true ∧ ∃ n y, DataW.trod enc Try.prog w base (fun _ => true) held n 22 [sl] = some y := by
        intro j hj
        have e := hel j hj
        rw [h3] at e
        obtain ⟨y, hy⟩ : ∃ y, elems[j]? = some y := ⟨_, List.getElem?_eq_getElem (by omega)⟩
        rw [hy, Option.bind_eq_some_iff] at e
        obtain ⟨cs', hcs', hst⟩ := e
        obtain ⟨-, hcl, hcc⟩ := World.cells?_some hcs'
        have u := Try.underlying26
        obtain ⟨xs, n', -, -, -, hxl, hget⟩ := DataW.trod_struct u hst
        have hx3 : xs.length = 3 := hxl
        have g0 : DataW.trod enc Try.prog w base (fun _ => true) held n' 3 ((cs'.drop 0).take (Try.prog.cellsOf 3)) = xs[0]? := hget 0 _ rfl
        have g1 : DataW.trod enc Try.prog w base (fun _ => true) held n' 3 ((cs'.drop 1).take (Try.prog.cellsOf 3)) = xs[1]? := hget 1 _ rfl
        have g2 : DataW.trod enc Try.prog w base (fun _ => true) held n' 22 ((cs'.drop 2).take (Try.prog.cellsOf 22)) = xs[2]? := hget 2 _ rfl
        rw [c3] at g0 g1
        rw [c22] at g2
        match cs', hcl with
        | [v0, v1, v2], _ =>
          simp only [List.drop_zero, List.drop_succ_cons, List.take_succ_cons, List.take_zero] at g0 g1 g2
          rw [List.getElem?_eq_getElem (by omega)] at g0 g1 g2
          obtain ⟨fr, e0, -, w0⟩ := DataW.trod_int Try.underlying3 g0
          obtain ⟨to, e1, -, w1⟩ := DataW.trod_int Try.underlying3 g1
          simp only [List.cons.injEq, and_true] at e0 e1
          subst e0 e1
          have q0 := hcc 0 (by omega)
          have q1 := hcc 1 (by omega)
          have q2 := hcc 2 (by omega)
          have hadd0 : ∀ y : Addr, y.add 0 = y := fun y => by unfold Addr.add; simp
          rw [hadd0] at q0
          exact ⟨fr, to, v2, q0, q1, q2, w0, w1, n', _, g2⟩
      obtain ⟨b, off, spot⟩ := x
      have hspot : spot = none := by
        obtain ⟨fr, to, sl, q0, -⟩ := each 0 (by omega)
        simpa [Addr.add] using World.cell?_spot q0
      subst hspot
      have hplain : ∀ (o i : Nat), (⟨b, o, none⟩ : Addr).add i = ⟨b, o + i, none⟩ := fun o i => by unfold Addr.add; split <;> simp_all
      refine .inr ⟨b, off, rfl, ?_, fun j hj => ?_⟩
      · obtain ⟨fr, to, sl, q0, -⟩ := each 0 (by omega)
        rw [hplain] at q0
        exact World.block_lt_of_cell? w _ q0
      · obtain ⟨fr, to, sl, q0, q1, q2, w0, w1, n', y, hy⟩ := each j hj
        rw [hplain] at q0
        rw [hplain, hplain] at q1 q2
        have k0 : -9223372036854775808 ≤ fr ∧ fr ≤ 9223372036854775807 := by simpa [Lit.wf, IntKind.min, IntKind.max, IntKind.signed, IntKind.bits] using w0
        have k1 : -9223372036854775808 ≤ to ∧ to ≤ 9223372036854775807 := by simpa [Lit.wf, IntKind.min, IntKind.max, IntKind.signed, IntKind.bits] using w1
        rcases open_ints Try.underlying22 Try.underlying5 (by kernel_rfl) hy with ⟨e, -⟩ | ⟨ya, yl, yc, zs, e, -, l1, l2, l3, -, l4, l5⟩
        · simp only [List.cons.injEq, and_true] at e
          subst e
          exact ⟨⟨fr, to, none, 0, []⟩, q0, q1, q2, by simp, by simp, by simp, k0, k1, ⟨rfl, by simp, by simp, .inl rfl⟩⟩
        · simp only [List.cons.injEq, and_true] at e
          subst e
          obtain ⟨z1, z2, z3⟩ := bytes_of (a := some ya) (len := yl) (cap := yc) (zs := zs) (.inr ⟨ya, rfl, l1, l2, by simpa using l3, l4, l5⟩)
          have z4 := z1.1
          refine ⟨⟨fr, to, some ya, yc, zs.take yl⟩, q0, q1, ?_, ?_, by simp, z3, k0, k1, ?_⟩
          · rw [q2]; simp only [z4]
          · rw [z4]; exact z2
          · rw [z4]; exact z1
end Go.Proofs.Ytbkifjmfmiipnaa
