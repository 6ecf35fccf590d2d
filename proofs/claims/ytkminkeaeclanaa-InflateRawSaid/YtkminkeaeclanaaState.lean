/- The reader in memory: its block, its row; what a call leaves alone; what is thrown. -/
import Derived.Test.YtkminkeaeclanaaSpec
import Derived.Test.YtkminkeaeclanaaMid
import Derived.WalkMore
import Derived.WalkLawsBesides
import Derived.Lib.Hide
import Derived.Outline
import Derived.BigQuiet
import Derived.Deep.QuietTactic
import Derived.Deep.RegionLaw
import Derived.StillTailTactics
import Derived.StillTactics
import Derived.IntWalk
namespace Go.Proofs.Ytkminkeaeclanaa
open Go.RowKit Plain
set_option linter.unusedVariables false
/-- What is thrown. -/
def thrown (n : Nat) : Ending := .panicked [{ v := .iface 55 (.agg #[.int .i64 (n : Int)]), recovered := false }]
theorem with_any (n : Nat) (w : World) : Calls Try.prog 36 #[.int .i64 (n : Int)] w fun e w' => e = thrown n ∧ w = w' := by
  go_enter Try.func36, Try.ntmps36
  go_wp2_with fail
  exact ⟨rfl, rfl, rfl⟩
theorem cell_row0 (W : World) (b k : Nat) (cs : Array Value) (t : TypeId) (fz : Nat × Nat) (h : W.heap[b]? = some (.cells cs t fz)) : W.cell? ⟨b, k, none⟩ = cs[k]? := by simp [World.cell?, h]
theorem free_row0 (W : World) (b k : Nat) (cs : Array Value) (t : TypeId) (h : W.heap[b]? = some (.cells cs t (0, 0))) : W.frozen? ⟨b, k, none⟩ = false := by simp [World.frozen?, h]
theorem unhid {p : Prop} (h : p) : Hid p := h
/-- The reader's block. -/
def cellsO (ba : Option Addr) (bn bc : Nat) (at_ held left : Nat) (mv : Value) (most : Nat) : Array Value :=
  #[.slice ba bn bc, .int .i64 (at_ : Int), .int .u64 (held : Int), .int .i64 (left : Int), mv, .int .i64 (most : Int)]
/-- What a call may turn: the reader's block and its row. -/
structure Turn (Ob : Nat) (mv mv' : Value) (w w' : World) : Prop where
  os : w'.os = w.os
  tape : w'.tape = w.tape
  output : w'.output = w.output
  size : w.heap.size ≤ w'.heap.size
  block : ∀ k, k < w.heap.size → k ≠ Ob → mv.ownBlock ≠ some k → w'.heap[k]? = w.heap[k]?
  row : ∀ k, mv'.ownBlock = some k → mv.ownBlock = some k ∨ w.heap.size ≤ k
theorem Turn.refl (Ob : Nat) (mv : Value) (w : World) : Turn Ob mv mv w w := ⟨rfl, rfl, rfl, Nat.le_refl _, fun _ _ _ _ => rfl, fun k hk => .inl hk⟩
theorem Turn.trans {Ob : Nat} {m1 m2 m3 : Value} {w1 w2 w3 : World} (h1 : Turn Ob m1 m2 w1 w2) (h2 : Turn Ob m2 m3 w2 w3) : Turn Ob m1 m3 w1 w3 := by
  refine ⟨h2.os.trans h1.os, h2.tape.trans h1.tape, h2.output.trans h1.output, Nat.le_trans h1.size h2.size, fun k hk hO hm => ?_, fun k hk => ?_⟩
  · have hm2 : m2.ownBlock ≠ some k := fun e => by
      rcases h1.row k e with h | h
      · exact hm h
      · omega
    exact (h2.block k (Nat.lt_of_lt_of_le hk h1.size) hO hm2).trans (h1.block k hk hO hm)
  · rcases h2.row k hk with h | h
    · exact h1.row k h
    · exact .inr (Nat.le_trans h1.size h)
theorem Turn.of_below {Ob : Nat} {mv : Value} {w w' : World} (h : Below w.heap.size w w') : Turn Ob mv mv w w' := ⟨h.os, h.tape, h.output, h.size, fun k hk _ _ => h.block k hk, fun k hk => .inl hk⟩
theorem Turn.drew {Ob : Nat} {m1 m2 : Value} {w1 w2 : World} (h : Turn Ob m1 m2 w1 w2) : Turn Ob m1 m2 w1 w2.drew := ⟨h.os, h.tape, h.output, h.size, h.block, h.row⟩
theorem Turn.drewN {Ob : Nat} {m1 m2 : Value} {w1 w2 : World} (h : Turn Ob m1 m2 w1 w2) (n : Nat) : Turn Ob m1 m2 w1 (w2.drewN n) := ⟨h.os, h.tape, h.output, h.size, h.block, h.row⟩
theorem Turn.cell {Ob : Nat} {mv : Value} {w : World} (i : Nat) (v : Value) : Turn Ob mv mv w (w.setCell ⟨Ob, i, none⟩ v) :=
  ⟨rfl, rfl, rfl, by rw [World.size_setCell]; exact Nat.le_refl _, fun k _ hk _ => Below.heap_setCell w _ v k (by show k ≠ Ob; exact hk), fun k hk => .inl hk⟩
/-- The reader in memory, at the p-th bit, with what has been made. -/
def OutL (lim : Nat) (w0 : World) (Ob : Nat) (ba : Option Addr) (bn bc N most : Nat) (w : World) (p : Nat) (mv : Value) (made : List Int) : Prop :=
  ∃ at_ held left : Nat, w.heap[Ob]? = some (.cells (cellsO ba bn bc at_ held left mv most) 41 (0, 0)) ∧ p + left = 8 * at_ ∧ left < lim ∧ at_ ≤ bn ∧ held = N / 2 ^ p % 2 ^ left ∧
    Mid w w0.heap.size mv made.length made ∧ mv.ownBlock ≠ some Ob ∧ Below w0.heap.size w0 w ∧ w0.heap.size ≤ Ob ∧ made.length ≤ most ∧ ∀ x ∈ made, 0 ≤ x ∧ x ≤ 255
/-- What the bytes are. -/
structure SrcB (w0 : World) (ba : Option Addr) (bn bc N most : Nat) (bs : List Int) : Prop where
  bytes : Bytes w0 ba bn bs
  le : bn ≤ bc
  cap : bc ≤ 9223372036854775807
  nil : ba = none → bc = 0
  few : bn ≤ 1000000000
  most : most ≤ 1000000000
  num : N = streamN bs
theorem mem_of_getD {xs : List Int} {P : Int → Prop} (h : ∀ j : Nat, P (xs[j]?.getD 0)) : ∀ x ∈ xs, P x := fun x hx => by
  obtain ⟨j, hj, rfl⟩ := List.mem_iff_getElem.1 hx
  have := h j
  rwa [List.getElem?_eq_getElem hj] at this
theorem range_of_mem0 {xs : List Int} (h : ∀ x ∈ xs, 0 ≤ x ∧ x ≤ 255) (j : Nat) : 0 ≤ xs[j]?.getD 0 ∧ xs[j]?.getD 0 ≤ 255 := by
  by_cases hj : j < xs.length
  · rw [List.getElem?_eq_getElem hj]; exact h _ (List.getElem_mem hj)
  · rw [List.getElem?_eq_none (by omega)]; simp
theorem OutL.lt {lim : Nat} {w0 : World} {Ob : Nat} {ba : Option Addr} {bn bc N most : Nat} {w : World} {p : Nat} {mv : Value} {made : List Int} (h : OutL lim w0 Ob ba bn bc N most w p mv made) : Ob < w.heap.size := by
  obtain ⟨a, b, c, hh, -⟩ := h
  rcases Nat.lt_or_ge Ob w.heap.size with h | h
  · exact h
  · rw [Array.getElem?_eq_none h] at hh; cases hh
theorem OutL.below {lim : Nat} {w0 : World} {Ob : Nat} {ba : Option Addr} {bn bc N most : Nat} {w w' : World} {p : Nat} {mv : Value} {made : List Int} (h : OutL lim w0 Ob ba bn bc N most w p mv made) (hb : Below w.heap.size w w') : OutL lim w0 Ob ba bn bc N most w' p mv made := by
  have hlt := h.lt
  obtain ⟨a, hd, l, hh, h1, h2, h3, h4, hm, hO, hbel, h5⟩ := h
  exact ⟨a, hd, l, (hb.block Ob hlt).trans hh, h1, h2, h3, h4, hm.below hb, hO, hbel.trans (hb.mono hbel.size), h5⟩
theorem below_drewN (w : World) (n : Nat) : Below w.heap.size w (w.drewN n) := ⟨rfl, rfl, rfl, Nat.le_refl _, fun _ _ => rfl⟩
theorem Turn.after {Ob : Nat} {m1 m2 : Value} {w w1 w2 : World} (hb : Below w.heap.size w w1) (h : Turn Ob m1 m2 w1 w2) : Turn Ob m1 m2 w w2 := (Turn.of_below (Ob := Ob) (mv := m1) hb).trans h
/-- One block alone is turned. -/
structure OnlyAt (Ob : Nat) (w w' : World) : Prop where
  os : w'.os = w.os
  tape : w'.tape = w.tape
  output : w'.output = w.output
  size : w'.heap.size = w.heap.size
  block : ∀ k, k ≠ Ob → w'.heap[k]? = w.heap[k]?
theorem OnlyAt.refl (Ob : Nat) (w : World) : OnlyAt Ob w w := ⟨rfl, rfl, rfl, rfl, fun _ _ => rfl⟩
theorem OnlyAt.drew {Ob : Nat} {w w' : World} (h : OnlyAt Ob w w') : OnlyAt Ob w w'.drew := ⟨h.os, h.tape, h.output, h.size, h.block⟩
theorem OnlyAt.drewN {Ob : Nat} {w w' : World} (h : OnlyAt Ob w w') (n : Nat) : OnlyAt Ob w (w'.drewN n) := ⟨h.os, h.tape, h.output, h.size, h.block⟩
theorem OnlyAt.set {Ob : Nat} {w w' : World} (h : OnlyAt Ob w w') (i : Nat) (v : Value) : OnlyAt Ob w (w'.setCell ⟨Ob, i, none⟩ v) :=
  ⟨h.os, h.tape, h.output, by rw [World.size_setCell]; exact h.size, fun k hk => (Below.heap_setCell w' _ v k (by show k ≠ Ob; exact hk)).trans (h.block k hk)⟩
theorem OnlyAt.trans {Ob : Nat} {a b c : World} (h : OnlyAt Ob a b) (g : OnlyAt Ob b c) : OnlyAt Ob a c := ⟨g.os.trans h.os, g.tape.trans h.tape, g.output.trans h.output, g.size.trans h.size, fun k hk => (g.block k hk).trans (h.block k hk)⟩
/-- The reader's numbers are others. -/
theorem OutL.put {lim lim' : Nat} {w0 : World} {Ob : Nat} {ba : Option Addr} {bn bc N most : Nat} {w w' : World} {p p' : Nat} {mv : Value} {made : List Int} (h : OutL lim w0 Ob ba bn bc N most w p mv made) (at_ held left : Nat)
    (hon : OnlyAt Ob w w')
    (hh : w'.heap[Ob]? = some (.cells (cellsO ba bn bc at_ held left mv most) 41 (0, 0))) (h1 : p' + left = 8 * at_) (h2 : left < lim') (h3 : at_ ≤ bn) (h4 : held = N / 2 ^ p' % 2 ^ left) :
    OutL lim' w0 Ob ba bn bc N most w' p' mv made ∧ Turn Ob mv mv w w' := by
  obtain ⟨ho, hp, hq, hs, ht⟩ := hon
  obtain ⟨-, -, -, -, -, -, -, -, hm, hO, hb, hge, hlen, hr⟩ := h
  have hg : w.grownBy w' (some Ob) := ⟨ho, hp, hq, by omega, fun k _ hk => ht k (fun e => hk (by rw [e]))⟩
  exact ⟨⟨at_, held, left, hh, h1, h2, h3, h4, hm.kept hg (.inr hO), hO, ⟨ho.trans hb.os, hp.trans hb.tape, hq.trans hb.output, by rw [hs]; exact hb.size, fun k hk => (ht k (by omega)).trans (hb.block k hk)⟩, hge, hlen, hr⟩, ⟨ho, hp, hq, by omega, fun k _ hk _ => ht k hk, fun k hk => .inl hk⟩⟩
theorem cells_at (ba : Option Addr) (bn bc a h l : Nat) (mv : Value) (most a' : Nat) : (cellsO ba bn bc a h l mv most).setIfInBounds 1 (.int .i64 (a' : Int)) = cellsO ba bn bc a' h l mv most := rfl
theorem cells_held (ba : Option Addr) (bn bc a h l : Nat) (mv : Value) (most h' : Nat) : (cellsO ba bn bc a h l mv most).setIfInBounds 2 (.int .u64 (h' : Int)) = cellsO ba bn bc a h' l mv most := rfl
theorem cells_left (ba : Option Addr) (bn bc a h l : Nat) (mv : Value) (most l' : Nat) : (cellsO ba bn bc a h l mv most).setIfInBounds 3 (.int .i64 (l' : Int)) = cellsO ba bn bc a h l' mv most := rfl
theorem cells_made (ba : Option Addr) (bn bc a h l : Nat) (mv : Value) (most : Nat) (mv' : Value) : (cellsO ba bn bc a h l mv most).setIfInBounds 4 mv' = cellsO ba bn bc a h l mv' most := rfl
end Go.Proofs.Ytkminkeaeclanaa
