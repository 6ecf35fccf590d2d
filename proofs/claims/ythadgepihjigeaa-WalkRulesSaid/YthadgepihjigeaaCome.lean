/- Reach's closure: mark a node and keep it: the walk. -/
import Derived.Test.YthadgepihjigeaaRefReach
namespace Go.Proofs.Ythadgepihjigeaa
open Go.RowKit Plain
set_option linter.unusedVariables false
/-- What Reach has in memory: the marks' box, the marks, the box of the open ones, their row. -/
structure Opn (w : World) (base M B1 B2 n : Nat) (ms : List Bool) (v : Value) (xs : List Int) : Prop where
  box : w.cell? ⟨B1, 0, none⟩ = some (.slice (some ⟨M, 0, none⟩) n n)
  marks : BoolRow w base M n ms
  hv : HeapV w B2 base v xs
  m1 : M ≠ B1
  m2 : M ≠ B2
  b12 : B1 ≠ B2
  vm : v.ownBlock ≠ some M
  vb : v.ownBlock ≠ some B1
  low1 : base ≤ B1
  low2 : base ≤ B2
theorem BoolRow.kept {w w' : World} {base M n : Nat} {ms : List Bool} (h : BoolRow w base M n ms) {r : Option Nat} (hg : w.grownBy w' r) (hr : r ≠ some M) : BoolRow w' base M n ms :=
  ⟨h.1, h.2.kept hg (.inr fun e => hr (by rw [← e]; rfl))⟩
theorem set_grown (w : World) (b j : Nat) (u : Value) : w.grownBy (w.setCell ⟨b, j, none⟩ u) (some b) :=
  ⟨rfl, rfl, rfl, by simp, fun k _ hk => heap_setCell_other w ⟨b, j, none⟩ k _ (fun e => hk (by simp [e]))⟩
theorem Opn.mark {w : World} {base M B1 B2 n : Nat} {ms : List Bool} {v : Value} {xs : List Int} (h : Opn w base M B1 B2 n ms v xs) (x : Nat) (b : Bool) : Opn (w.setCell ⟨M, x, none⟩ (.bool b)) base M B1 B2 n (ms.set x b) v xs := by
  have hg := set_grown w M x (.bool b)
  have hlt2 := cell_lt h.hv.cell
  exact ⟨hg.cell h.box (fun e => h.m1 (by first | injection e with e; exact e.symm | injection e with e; exact e)), h.marks.set x b,
    ⟨hg.cell h.hv.cell (fun e => h.m2 (by first | injection e with e; exact e.symm | injection e with e; exact e)), h.hv.row.kept hg (.inr h.vm), h.hv.ne, (hg.frozen_far ⟨B2, 0, none⟩ hlt2 (fun e => h.m2 (by first | injection e with e; exact e.symm | injection e with e; exact e))).trans h.hv.fro⟩,
    h.m1, h.m2, h.b12, h.vm, h.vb, h.low1, h.low2⟩
theorem Opn.push {W w7 : World} {base M B1 B2 n g c : Nat} {ms : List Bool} {v : Value} {xs : List Int} {x : Int} (h : Opn W base M B1 B2 n ms v xs) (o : Obj) (ho1 : w7.ownsRow base 3 1 (.slice (some ⟨g, 0, none⟩) (xs.length + 1) c) (xs.length + 1) (I64 (xs ++ [x])))
    (hg1 : (W.alloc o).grownBy w7 v.ownBlock) (hgg : v.ownBlock = some g ∨ g = (W.alloc o).heap.size) :
    w7.cell? ⟨B2, 0, none⟩ = some v ∧ w7.frozen? ⟨B2, 0, none⟩ = false ∧ Opn (w7.setCell ⟨B2, 0, none⟩ (.slice (some ⟨g, 0, none⟩) (xs.length + 1) c)) base M B1 B2 n ms (.slice (some ⟨g, 0, none⟩) (xs.length + 1) c) (xs ++ [x]) := by
  have l1 := cell_lt h.box
  have l2 := cell_lt h.hv.cell
  have l3 := (h.marks.2.lt M rfl).2
  have hsz := size_al W o
  have g1 : g ≠ M := fun e => by
    rcases hgg with hgg | hgg
    · exact h.vm (by rw [hgg, e])
    · omega
  have g2 : g ≠ B1 := fun e => by
    rcases hgg with hgg | hgg
    · exact h.vb (by rw [hgg, e])
    · omega
  have g3 : g ≠ B2 := fun e => by
    rcases hgg with hgg | hgg
    · exact h.hv.ne (by rw [hgg, e])
    · omega
  have c7 := hg1.cell (alloc_old W o h.hv.cell) (fun e => h.hv.ne e.symm)
  have f7 : w7.frozen? ⟨B2, 0, none⟩ = false := (hg1.frozen_far ⟨B2, 0, none⟩ (by rw [hsz]; show B2 < _; omega) (fun e => h.hv.ne e.symm)).trans ((World.frozen?_of_block (Below.heap_alloc _ _ _ (by exact l2))).trans h.hv.fro)
  have k7 := hg1.cell (alloc_old W o h.box) (fun e => h.vb e.symm)
  have m7 : BoolRow w7 base M n ms := BoolRow.kept ⟨h.marks.1, h.marks.2.alloc o⟩ hg1 h.vm
  have hs := set_grown w7 B2 0 (.slice (some ⟨g, 0, none⟩) (xs.length + 1) c)
  have hln : (xs ++ [x]).length = xs.length + 1 := by simp
  refine ⟨c7, f7, hs.cell k7 (fun e => h.b12 (by injection e)), m7.kept hs (fun e => h.m2 (by injection e with e; exact e.symm)), ⟨?_, ?_, fun e => g3 (by injection e), ?_⟩, h.m1, h.m2, h.b12, fun e => g1 (by injection e), fun e => g2 (by injection e), h.low1, h.low2⟩
  · exact World.cell?_setCell_same _ _ _ c7
  · rw [hln]
    exact ho1.kept hs (.inr fun e => g3 (by injection e))
  · exact (World.frozen?_setCell w7 ⟨B2, 0, none⟩ ⟨B2, 0, none⟩ _).trans f7
set_option maxRecDepth 100000 in
set_option maxHeartbeats 8000000 in
theorem come_any (base M B1 B2 n x : Nat) (ms : List Bool) (v : Value) (xs : List Int) (b : Bool) (w : World) (h : Opn w base M B1 B2 n ms v xs) (hx : x < n) (hb : ms[x]? = some b) (hl : xs.length ≤ 1000000) (hbase : base ≤ w.heap.size) :
    Calls Try.prog 27 #[.int .i64 (x : Int), .pointer (some ⟨B1, 0, none⟩), .pointer (some ⟨B2, 0, none⟩)] w fun e w' => e = .returned (.tuple #[]) ∧ (∃ v', Opn w' base M B1 B2 n (if b then ms else ms.set x true) v' (if b then xs else xs ++ [(x : Int)])) ∧ Below base w w' := by
  have HO := Lib.hid h
  obtain ⟨hc0, hf0⟩ := h.marks.at_ hb hx
  have hbx := h.box
  have hxi : (x : Int) < (n : Int) := by omega
  clear h
  go_enter Try.func27, Try.ntmps27
  cases b with
  | true =>
    go_wp2_with fail
    go_end0
    exact ⟨rfl, ⟨v, HO.out⟩, Below.refl _ _⟩
  | false =>
    have HM := Lib.hid (HO.out.mark x true)
    have HB := Lib.hid ((Below.refl base w).setCell (p := ⟨M, x, none⟩) HO.out.marks.low (.bool true))
    have hsz : (w.setCell ⟨M, x, none⟩ (.bool true)).heap.size = w.heap.size := by simp
    have hcB := HM.out.hv.cell
    have hlt := cell_lt hcB
    have hbx1 := HM.out.box
    have hci : ∀ o, ((w.setCell ⟨M, x, none⟩ (.bool true)).alloc o).cell? ⟨B2, 0, none⟩ = some v := fun o => alloc_old _ o hcB
    have HLI := Lib.hid (fun t => lit_one (w.setCell ⟨M, x, none⟩ (.bool true)) (x : Int) t)
    have HBA := Lib.hid (fun o1 => HB.out.alloc (by rw [hsz]; exact hbase) o1)
    have tok : True := trivial
    go_wp2_with (have _t := tok; at_builtin; clear tok; refine Hid.out ?_)
    refine unhid ?_
    rw [hsz] at HLI
    refine wpList_append_one rfl _ _ rfl base v xs.length xs rfl (HM.out.hv.row.alloc _) w.heap.size (x : Int) rfl (HLI.out _) (by omega) (Nat.le_trans hbase (HBA.out _).size) (fun g2 gc2 w7 ho1 hg1 hgg hgl => ?_)
    obtain ⟨c7, f7, hp⟩ := HM.out.push _ ho1 hg1 hgg
    have HP := Lib.hid hp
    have HB7 := Lib.hid (((HBA.out _).grown hg1 (Nat.le_trans hbase (HBA.out _).size) (fun g hg => (HM.out.hv.row.lt g hg).1)).setCell (p := ⟨B2, 0, none⟩) HM.out.low2 (.slice (some ⟨g2, 0, none⟩) (xs.length + 1) gc2))
    clear ho1 hg1 hgg hgl HBA HLI hci hp
    go_wp2_with fail
    go_end0
    exact ⟨rfl, ⟨_, HP.out⟩, HB7.out⟩
end Go.Proofs.Ythadgepihjigeaa
