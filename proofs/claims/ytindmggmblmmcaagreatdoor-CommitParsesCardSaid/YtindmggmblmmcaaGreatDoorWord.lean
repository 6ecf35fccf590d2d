/- The kinds' words: the walks. -/
import Derived.Test.YtindmggmblmmcaaGreatDoorBytes
import Derived.Laws.Rows
import Derived.Laws.ResultCell
import Derived.BigQuiet
import Derived.Laws.CopyOwn
namespace Go.Proofs.YtindmggmblmmcaaGreatDoor
open Go.RowKit
set_option linter.unusedVariables false
def wCommit : ByteArray := ⟨#[99, 111, 109, 109, 105, 116]⟩
def wTree : ByteArray := ⟨#[116, 114, 101, 101]⟩
def wBlob : ByteArray := ⟨#[98, 108, 111, 98]⟩
def wTag : ByteArray := ⟨#[116, 97, 103]⟩
def wNone : ByteArray := ⟨#[]⟩
def wordsRow : Array Value := #[.string wCommit, .string wTree, .string wBlob, .string wTag]
def emptyRow : Array Value := #[.string wNone, .string wNone, .string wNone, .string wNone]
theorem zeroWords (w : World) : (zeroValue 123).run Tryz.prog w = .ok (.agg emptyRow) w := by
  show _ = Result.ok (Value.agg emptyRow) w
  kernel_rfl
theorem infoWords : (Tryz.prog.info? 123).map (·.size) = some wordsRow.size := by kernel_rfl
theorem oneWords : wordsRow.all (·.oneCell') = true := by kernel_rfl
set_option maxRecDepth 100000 in
set_option maxHeartbeats 2000000 in
theorem kinds_any (w : World) : Calls Tryz.prog 72 #[] w fun e w' => e = .returned (.agg wordsRow) ∧ Below w.heap.size w w' := by
  have hz := zeroWords
  go_enter Tryz.func72, Tryz.ntmps72
  have HR : Hid ((w.alloc (.cells emptyRow 123)).heap[w.heap.size]? = some (.cells emptyRow 123 (0, 0))) := heap_alloc_new w _
  have HB : Hid (Below w.heap.size w (w.alloc (.cells emptyRow 123))) := (Below.refl _ _).alloc (Nat.le_refl _) _
  have tok : True := trivial
  have e4 : emptyRow.size = 4 := rfl
  have e0 : ¬ emptyRow = #[] := by intro h; have := congrArg Array.size h; simp [e4] at this
  go_wp2_with (have _t := tok; refine wpList_store_row rfl 123 (.tmp 0) (.tmp 1) rfl w.heap.size wordsRow rfl rfl 123 emptyRow HR.out infoWords rfl oneWords ?_; clear tok)
  refine bodyPost_ret (results_cell_row Tryz.results72 _ _ w.heap.size 123 _ (0, 0) (.array 4 9) rfl (setRow_heap _ _ _ _ _ _ HR.out) Tryz.underlying123 rfl infoWords) rfl ⟨rfl, ?_⟩
  exact below_setRow HB.out (Nat.le_refl _) _
theorem cell_row (W : World) (b k : Nat) (cs : Array Value) (t : TypeId) (fz : Nat × Nat) (h : W.heap[b]? = some (.cells cs t fz)) : W.cell? ⟨b, k, none⟩ = cs[k]? := by simp [World.cell?, h]
/-- A kind's word. -/
def wordAt (k : Int) : ByteArray := if k = 1 then wCommit else if k = 2 then wTree else if k = 3 then wBlob else if k = 4 then wTag else wNone
theorem unhid {p : Prop} (h : p) : Hid p := h
theorem zeroWords0 : Tryz.prog.info? 123 ≠ none := by
  intro h; have := infoWords; rw [h] at this; cases this
set_option maxRecDepth 100000 in
set_option maxHeartbeats 4000000 in
theorem word_any (k : Int) (w : World) : Calls Tryz.prog 54 #[.int .i64 k] w fun e w' => e = .returned (.string (wordAt k)) ∧ Below w.heap.size w w' := by
  have hz := zeroWords
  go_enter Tryz.func54, Tryz.ntmps54
  have ZI : Hid ((Tryz.prog.info? 123).map (·.size) = some wordsRow.size) := infoWords
  go_wp2_with fail
  refine (kinds_any w).mono ?_
  rintro e w1 ⟨rfl, hb1⟩
  have HB1 : Hid (Below w.heap.size w w1) := hb1
  have HR : Hid ((w1.alloc (.cells emptyRow 123)).heap[w1.heap.size]? = some (.cells emptyRow 123 (0, 0))) := heap_alloc_new w1 _
  have HB2 : Hid (Below w.heap.size w (w1.alloc (.cells emptyRow 123))) := hb1.alloc hb1.size _
  have HS : Hid (w.heap.size ≤ w1.heap.size) := hb1.size
  clear hb1
  have tok : True := trivial
  go_wp2_with (have _t := tok; refine wpList_store_row rfl 123 (.tmp 3) (.tmp 4) rfl w1.heap.size wordsRow rfl rfl 123 emptyRow HR.out ZI.out rfl oneWords ?_; clear tok; refine Hid.out ?_)
  have HN : Hid ((((w1.alloc (.cells emptyRow 123)).setRow w1.heap.size wordsRow)).heap[w1.heap.size]? = some (.cells wordsRow 123 (0, 0))) := setRow_heap _ _ _ _ _ _ HR.out
  have HB3 : Hid (Below w.heap.size w ((w1.alloc (.cells emptyRow 123)).setRow w1.heap.size wordsRow)) := below_setRow HB2.out HS.out _
  generalize (w1.alloc (.cells emptyRow 123)).setRow w1.heap.size wordsRow = w2 at *
  generalize w1.heap.size = g at *
  refine unhid ?_
  by_cases h1 : k < 1
  · have HE : Hid (wordAt k = wNone) := by
      show _ = _; unfold wordAt; rw [if_neg (by omega), if_neg (by omega), if_neg (by omega), if_neg (by omega)]
    go_wp2_with fail
    go_ret
    rw [HE.out]
    exact ⟨rfl, HB3.out⟩
  · by_cases h4 : 4 < k
    · have HE : Hid (wordAt k = wNone) := by
        show _ = _; unfold wordAt; rw [if_neg (by omega), if_neg (by omega), if_neg (by omega), if_neg (by omega)]
      go_wp2_with fail
      go_ret
      rw [HE.out]
      exact ⟨rfl, HB3.out⟩
    · have hc0 : w2.cell? ⟨g, 0, none⟩ = some (.string wCommit) := cell_row w2 g 0 _ _ _ HN.out
      have hc1 : w2.cell? ⟨g, 1, none⟩ = some (.string wTree) := cell_row w2 g 1 _ _ _ HN.out
      have hc2 : w2.cell? ⟨g, 2, none⟩ = some (.string wBlob) := cell_row w2 g 2 _ _ _ HN.out
      have hc3 : w2.cell? ⟨g, 3, none⟩ = some (.string wTag) := cell_row w2 g 3 _ _ _ HN.out
      obtain rfl | rfl | rfl | rfl : k = 1 ∨ k = 2 ∨ k = 3 ∨ k = 4 := by omega
      all_goals
        clear h1 h4
        go_wp2_with fail
        go_ret
        exact ⟨rfl, HB3.out⟩
/-- A kind's word, as the document tells it. -/
theorem refWord_any (k : Int) (w : World) : Calls Tryz.prog 53 #[.int .i64 k] w fun e w' => e = .returned (.string (wordAt k)) ∧ w' = w := by
  go_enter Tryz.func53, Tryz.ntmps53
  unfold wordAt
  by_cases h1 : k = 1
  · subst h1; go_wp2_with fail; go_ret; exact ⟨rfl, rfl⟩
  rw [if_neg h1]
  by_cases h2 : k = 2
  · subst h2; go_wp2_with fail; go_ret; exact ⟨rfl, rfl⟩
  rw [if_neg h2]
  by_cases h3 : k = 3
  · subst h3; go_wp2_with fail; go_ret; exact ⟨rfl, rfl⟩
  rw [if_neg h3]
  by_cases h4 : k = 4
  · subst h4; go_wp2_with fail; go_ret; exact ⟨rfl, rfl⟩
  rw [if_neg h4]
  go_wp2_with fail; go_ret; exact ⟨rfl, rfl⟩
end Go.Proofs.YtindmggmblmmcaaGreatDoor
