/- halt.Run over Raw's steps. -/
import Derived.Test.YtkminkeaeclanaaRawSteps
import Derived.Test.YtkminkeaeclanaaRun
namespace Go.Proofs.Ytkminkeaeclanaa
open Go.RowKit Plain
set_option linter.unusedVariables false
theorem Turn.store {Ob : Nat} {mv mv' : Value} {w w' : World} (h : Turn Ob mv mv' w w') (Lb i : Nat) (v : Value) (hl : w.heap.size ≤ Lb) : Turn Ob mv mv' w (w'.setCell ⟨Lb, i, none⟩ v) :=
  ⟨h.os, h.tape, h.output, by rw [World.size_setCell]; exact h.size, fun k hk h1 h2 => (Below.heap_setCell w' _ v k (by show k ≠ Lb; omega)).trans (h.block k hk h1 h2), h.row⟩
/-- What Run tells. -/
def RunP (w0 : World) (Ob : Nat) (ba : Option Addr) (bn bc N most : Nat) (w : World) (mv : Value) (r : Except Nat (Nat × List Int)) (e : Ending) (w' : World) : Prop :=
  (∃ q m mv', r = .ok (q, m) ∧ e = .returned (.int .i64 0) ∧ Turn Ob mv mv' w w' ∧ OutL 8 w0 Ob ba bn bc N most w' q mv' m) ∨ ∃ n, r = .error n ∧ e = .returned (.int .i64 (n : Int)) ∧ ∃ mv', Turn Ob mv mv' w w'
set_option maxRecDepth 100000 in
set_option maxHeartbeats 4000000 in
theorem run_any {w0 : World} {Ob : Nat} {ba : Option Addr} {bc N most : Nat} {bs : List Int} (HS : SrcB w0 ba bs.length bc N most bs) (w : World) (p : Nat) (mv : Value) (made : List Int) (H : OutL 8 w0 Ob ba bs.length bc N most w p mv made) :
    Calls Try.prog 14 #[.func (.func 15) #[] #[.pointer (some ⟨Ob, 0, none⟩)]] w (RunP w0 Ob ba bs.length bc N most w mv (rawAt bs N most p made)) := by
  have HB1 : Hid (Below w.heap.size w (w.alloc (.cells #[.int .i64 0] 23))) := (Below.refl _ _).alloc (Nat.le_refl _) _
  have HNEW : Hid ((w.alloc (.cells #[.int .i64 0] 23)).heap[w.heap.size]? = some (.cells #[.int .i64 0] 23 (0, 0))) := heap_alloc_new w _
  have hst := rawSteps_any HS (w.alloc (.cells #[.int .i64 0] 23)) p mv made (H.below HB1.out)
  have hOw := H.lt
  have hw0 : w0.heap.size ≤ w.heap.size := by
    obtain ⟨_, _, _, _, _, _, _, _, _, _, hb, _⟩ := H
    exact hb.size
  have HMV := Lib.hid H.mid
  have hmf : ∀ (fn : Fn) (first cap : Array Value) (w : World), (Instr.makeFunc fn first cap).run Try.prog w = .ok (.func fn first cap) w := fun _ _ _ _ => rfl
  clear HS H
  go_enter_defers Try.func14, Try.ntmps14
  go_wp2_with fail
  refine hst.mono ?_
  intro e w2 hgot
  obtain ⟨q, m, mv', hr, rfl, ht, ho⟩ | ⟨k, hr, rfl, mv', ht⟩ := hgot
  · have hmw : mv.ownBlock ≠ some w.heap.size := fun e => Nat.lt_irrefl _ (HMV.out _ e)
    have hsz : w.heap.size < (w.alloc (.cells #[.int .i64 0] 23)).heap.size := by rw [World.size_alloc]; omega
    have hL : w2.heap[w.heap.size]? = some (.cells #[.int .i64 0] 23 (0, 0)) := (ht.block _ hsz (by omega) hmw).trans HNEW.out
    have hmv : mv'.ownBlock ≠ some w.heap.size := fun e => by
      rcases ht.row _ e with h | h
      · exact hmw h
      · omega
    have hc : w2.cell? ⟨w.heap.size, 0, none⟩ = some (.int .i64 0) := by rw [cell_row0 _ _ _ _ _ _ hL]; rfl
    have hz : w2.frozen? ⟨w.heap.size, 0, none⟩ = false := by simp [World.frozen?, hL]
    have HC3 : Hid ((w2.setCell ⟨w.heap.size, 0, none⟩ (.int .i64 0)).cell? ⟨w.heap.size, 0, none⟩ = some (.int .i64 0)) := World.cell?_setCell_same _ _ _ hc
    have HR := Lib.hid hr
    have HT := Lib.hid (((Turn.of_below HB1.out).trans ht).store w.heap.size 0 (.int .i64 0) (Nat.le_refl _))
    have HO := Lib.hid (ho.store w.heap.size 0 (.int .i64 0) (by omega) hmv hw0)
    clear hst hr ht ho hL
    go_wp2_with fail
    refine leaves_cons (f := 27) (args := #[.pointer (some ⟨w.heap.size, 0, none⟩)]) (by simp) (by simp [go_sem]) ?_
    refine (catch_idle ⟨w.heap.size, 0, none⟩ _).mono ?_
    rintro e u' w'' ⟨rfl, rfl, rfl⟩
    refine ⟨.int .i64 0, ?_, ?_⟩
    · simp [results, Try.results14, go_sem, HC3.out]
    · exact .inl ⟨q, m, mv', HR.out, rfl, HT.out, HO.out⟩
  · have hmw : mv.ownBlock ≠ some w.heap.size := fun e => Nat.lt_irrefl _ (HMV.out _ e)
    have hsz : w.heap.size < (w.alloc (.cells #[.int .i64 0] 23)).heap.size := by rw [World.size_alloc]; omega
    have hL : w2.heap[w.heap.size]? = some (.cells #[.int .i64 0] 23 (0, 0)) := (ht.block _ hsz (by omega) hmw).trans HNEW.out
    have hcatch := catch_fault w.heap.size 0 k [] w2 hL
    have HR := Lib.hid hr
    have HT := Lib.hid (((Turn.of_below HB1.out).trans ht).trans (Turn.of_below ((Below.refl _ w2).alloc (Nat.le_refl _) (.cells #[.int .i64 (k : Int)] 55))))
    have h3 : (w2.alloc (.cells #[.int .i64 (k : Int)] 55)).cell? ⟨w.heap.size, 0, none⟩ = some (.int .i64 0) := by
      rw [cell_row0 _ _ _ _ _ _ ((((Below.refl _ w2).alloc (Nat.le_refl _) _).block _ (Array.getElem?_eq_some_iff.1 hL).1).trans hL)]; rfl
    have HC3 : Hid (((w2.alloc (.cells #[.int .i64 (k : Int)] 55)).setCell ⟨w.heap.size, 0, none⟩ (.int .i64 (k : Int))).cell? ⟨w.heap.size, 0, none⟩ = some (.int .i64 (k : Int))) := World.cell?_setCell_same _ _ _ h3
    have HT3 := Lib.hid (HT.out.store w.heap.size 0 (.int .i64 (k : Int)) (Nat.le_refl _))
    clear hst hr ht h3
    go_wp2_with fail
    refine leaves_cons (f := 27) (args := #[.pointer (some ⟨w.heap.size, 0, none⟩)]) (by simp) (by simp [go_sem]) ?_
    refine hcatch.mono ?_
    rintro e u' w'' ⟨rfl, rfl, rfl⟩
    refine ⟨.int .i64 (k : Int), ?_, ?_⟩
    · simp [results, Try.results14, go_sem, HC3.out]
    · exact .inr ⟨k, HR.out, rfl, mv', HT3.out⟩
end Go.Proofs.Ytkminkeaeclanaa
