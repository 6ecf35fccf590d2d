/- The heap: the walks. -/
import Derived.Test.YthadgepihjigeaaHeapMath
import Derived.WalkKit
import Derived.ProofKit
import Derived.Below
import Derived.OwnWalk
import Derived.BigRegion
import Derived.BigQuiet
import Derived.Deep.AppendLies
import Derived.Lib.Hide
namespace Go.Proofs.Ythadgepihjigeaa
open Go.RowKit Plain
set_option linter.unusedVariables false
def I64 (xs : List Int) : List Value := xs.map (Value.int .i64)
theorem I64_len (xs : List Int) : (I64 xs).length = xs.length := List.length_map ..
theorem I64_at (xs : List Int) (i : Nat) (hi : i < xs.length) : (I64 xs)[i]? = some (.int .i64 (at0 xs i)) := by
  unfold I64 at0
  rw [List.getElem?_map, List.getElem?_eq_getElem hi]
  rfl
theorem I64_set (xs : List Int) (i : Nat) (x : Int) : I64 (xs.set i x) = (I64 xs).set i (.int .i64 x) := by
  unfold I64
  rw [List.map_set]
/-- A heap in memory: its row lies in block g. -/
structure HeapAt (w : World) (H base g c : Nat) (xs : List Int) : Prop where
  cell : w.cell? ⟨H, 0, none⟩ = some (.slice (some ⟨g, 0, none⟩) xs.length c)
  row : w.ownsRow base 3 1 (.slice (some ⟨g, 0, none⟩) xs.length c) xs.length (I64 xs)
  ne : H ≠ g
  fro : w.frozen? ⟨H, 0, none⟩ = false
theorem HeapAt.at_ {w : World} {H base g c : Nat} {xs : List Int} (h : HeapAt w H base g c xs) (i : Nat) (hi : i < xs.length) : w.cell? ⟨g, i, none⟩ = some (.int .i64 (at0 xs i)) ∧ w.frozen? ⟨g, i, none⟩ = false :=
  ⟨(h.row.cellAt i (by omega)).trans (I64_at xs i hi), h.row.frozenAt i⟩
theorem HeapAt.drew {w : World} {H base g c : Nat} {xs : List Int} (h : HeapAt w H base g c xs) : HeapAt w.drew H base g c xs := ⟨h.cell, h.row, h.ne, h.fro⟩
theorem HeapAt.drewN {w : World} {H base g c : Nat} {xs : List Int} (h : HeapAt w H base g c xs) (n : Nat) : HeapAt (w.drewN n) H base g c xs := ⟨h.cell, h.row, h.ne, h.fro⟩
theorem HeapAt.set {w : World} {H base g c : Nat} {xs : List Int} (h : HeapAt w H base g c xs) (i : Nat) (x : Int) : HeapAt (w.setCell ⟨g, i, none⟩ (.int .i64 x)) H base g c (xs.set i x) ∧ w.grownBy (w.setCell ⟨g, i, none⟩ (.int .i64 x)) (some g) := by
  obtain ⟨h1, h2⟩ := h.row.stored i (.int .i64 x)
  refine ⟨⟨?_, ?_, h.ne, (h2.frozen_far ⟨H, 0, none⟩ (World.block_lt_of_cell? w ⟨H, 0, none⟩ h.cell) (fun e => h.ne (by injection e))).trans h.fro⟩, h2⟩
  · rw [List.length_set]
    exact h2.cell h.cell (fun e => h.ne (by injection e))
  · rw [List.length_set, I64_set]
    exact h1
theorem grown_trans {w w1 w2 : World} {r : Option Nat} (h1 : w.grownBy w1 r) (h2 : w1.grownBy w2 r) : w.grownBy w2 r :=
  ⟨h2.os.trans h1.os, h2.tape.trans h1.tape, h2.output.trans h1.output, Nat.le_trans h1.size h2.size, fun k hk hne => (h2.block k (Nat.lt_of_lt_of_le hk h1.size) hne).trans (h1.block k hk hne)⟩
theorem grown_drew {w w1 : World} {r : Option Nat} (h1 : w.grownBy w1 r) : w.grownBy w1.drew r := ⟨h1.os, h1.tape, h1.output, h1.size, h1.block⟩
theorem grown_drewN {w w1 : World} {r : Option Nat} (h1 : w.grownBy w1 r) (n : Nat) : w.grownBy (w1.drewN n) r := ⟨h1.os, h1.tape, h1.output, h1.size, h1.block⟩
theorem grown_refl (w : World) (r : Option Nat) : w.grownBy w r := ⟨rfl, rfl, rfl, Nat.le_refl _, fun _ _ _ => rfl⟩
theorem empty_any (H : Nat) (a : Option Addr) (n c : Nat) (w : World) (hc : w.cell? ⟨H, 0, none⟩ = some (.slice a n c)) : Calls Try.prog 22 #[.pointer (some ⟨H, 0, none⟩)] w fun e w' => e = .returned (.bool ((n : Int) == 0)) ∧ w' = w := by
  go_enter Try.func22, Try.ntmps22
  go_wp2_with fail
  go_ret
  exact ⟨rfl, rfl⟩
set_option maxRecDepth 100000 in
set_option maxHeartbeats 4000000 in
theorem swap_any (H base g c : Nat) (xs : List Int) (i j : Nat) (w : World) (h : HeapAt w H base g c xs) (hi : i < xs.length) (hj : j < xs.length) (hij : i ≠ j) :
    Calls Try.prog 29 #[.pointer (some ⟨H, 0, none⟩), .int .i64 (i : Int), .int .i64 (j : Int)] w fun e w' => e = .returned (.tuple #[]) ∧ HeapAt w' H base g c (swapL xs i j) ∧ w.grownBy w' (some g) := by
  have HH := Lib.hid h
  have hc := h.cell
  obtain ⟨ci, fi⟩ := h.at_ i hi
  obtain ⟨cj, fj⟩ := h.at_ j hj
  have hne := h.ne
  have HS : Hid (swapL xs i j = (xs.set i (at0 xs j)).set j (at0 xs i)) := rfl
  generalize at0 xs i = xi at *
  generalize at0 xs j = xj at *
  have hii : (i : Int) < (xs.length : Int) := by omega
  have hji : (j : Int) < (xs.length : Int) := by omega
  obtain ⟨n, hn⟩ : ∃ n, xs.length = n := ⟨_, rfl⟩
  rw [hn] at hc hi hj hii hji
  clear h hn
  go_enter Try.func29, Try.ntmps29
  go_wp2_with fail
  go_region
  go_wp2_with fail
  go_end0
  have s1 := HH.out.set i xj
  have s2 := s1.1.set j xi
  rw [HS.out]
  exact ⟨rfl, s2.1.drew, grown_drew (grown_trans s1.2 s2.2)⟩
set_option maxRecDepth 100000 in
set_option maxHeartbeats 4000000 in
theorem swap_same (H base g c : Nat) (xs : List Int) (i : Nat) (w : World) (h : HeapAt w H base g c xs) (hi : i < xs.length) :
    Calls Try.prog 29 #[.pointer (some ⟨H, 0, none⟩), .int .i64 (i : Int), .int .i64 (i : Int)] w fun e w' => e = .returned (.tuple #[]) ∧ HeapAt w' H base g c (swapL xs i i) ∧ w.grownBy w' (some g) := by
  have HH := Lib.hid h
  have hc := h.cell
  obtain ⟨ci, fi⟩ := h.at_ i hi
  have hne := h.ne
  have HS : Hid (swapL xs i i = (xs.set i (at0 xs i)).set i (at0 xs i)) := rfl
  generalize at0 xs i = xi at *
  have hii : (i : Int) < (xs.length : Int) := by omega
  obtain ⟨n, hn⟩ : ∃ n, xs.length = n := ⟨_, rfl⟩
  rw [hn] at hc hi hii
  clear h hn
  go_enter Try.func29, Try.ntmps29
  go_wp2_with fail
  go_region
  go_wp2_with fail
  go_end0
  have s1 := HH.out.set i xi
  have s2 := s1.1.set i xi
  rw [HS.out]
  exact ⟨rfl, s2.1.drew, grown_drew (grown_trans s1.2 s2.2)⟩
theorem swap_all (H base g c : Nat) (xs : List Int) (i j : Nat) (w : World) (h : HeapAt w H base g c xs) (hi : i < xs.length) (hj : j < xs.length) :
    Calls Try.prog 29 #[.pointer (some ⟨H, 0, none⟩), .int .i64 (i : Int), .int .i64 (j : Int)] w fun e w' => e = .returned (.tuple #[]) ∧ HeapAt w' H base g c (swapL xs i j) ∧ w.grownBy w' (some g) := by
  by_cases hij : i = j
  · subst hij; exact swap_same H base g c xs i w h hi
  · exact swap_any H base g c xs i j w h hi hj hij
set_option maxRecDepth 100000 in
set_option maxHeartbeats 4000000 in
theorem lesser_far (H base g c : Nat) (xs : List Int) (i j : Nat) (w : World) (h : HeapAt w H base g c xs) (hj : ¬ j < xs.length) :
    Calls Try.prog 30 #[.pointer (some ⟨H, 0, none⟩), .int .i64 (i : Int), .int .i64 (j : Int)] w fun e w' => e = .returned (.int .i64 ((lesserL xs i j : Nat) : Int)) ∧ HeapAt w' H base g c xs ∧ w.grownBy w' (some g) := by
  have HH := Lib.hid h
  have hc := h.cell
  have HL : Hid (lesserL xs i j = i) := if_neg fun h => hj h.1
  rw [HL.out]
  have hji : ¬ (j : Int) < (xs.length : Int) := by omega
  have hjb : decide ((j : Int) < (xs.length : Int)) = false := decide_eq_false hji
  clear h
  generalize xs.length = n at *
  go_enter Try.func30, Try.ntmps30
  go_wp2_with fail
  go_quiet (fail)
  go_wp2_with fail
  go_ret
  exact ⟨rfl, HH.out.drewN _, grown_drewN (grown_refl _ _) _⟩
set_option maxRecDepth 100000 in
set_option maxHeartbeats 4000000 in
theorem lesser_any (H base g c : Nat) (xs : List Int) (i j : Nat) (w : World) (h : HeapAt w H base g c xs) (hi : i < xs.length) :
    Calls Try.prog 30 #[.pointer (some ⟨H, 0, none⟩), .int .i64 (i : Int), .int .i64 (j : Int)] w fun e w' => e = .returned (.int .i64 ((lesserL xs i j : Nat) : Int)) ∧ HeapAt w' H base g c xs ∧ w.grownBy w' (some g) := by
  have HH := Lib.hid h
  have hc := h.cell
  obtain ⟨ci, fi⟩ := h.at_ i hi
  have hii : (i : Int) < (xs.length : Int) := by omega
  by_cases hj : j < xs.length
  · obtain ⟨cj, fj⟩ := h.at_ j hj
    have hji : (j : Int) < (xs.length : Int) := by omega
    have hjb : decide ((j : Int) < (xs.length : Int)) = true := decide_eq_true hji
    by_cases hlt : at0 xs j < at0 xs i
    · have HL : Hid (lesserL xs i j = j) := if_pos ⟨hj, hlt⟩
      rw [HL.out]
      generalize at0 xs i = xi at *
      generalize at0 xs j = xj at *
      generalize xs.length = n at *
      have hlb : decide (xj < xi) = true := decide_eq_true hlt
      clear h
      go_enter Try.func30, Try.ntmps30
      go_wp2_with fail
      go_quiet (fail)
      go_wp2_with fail
      go_ret
      exact ⟨rfl, HH.out.drewN _, grown_drewN (grown_refl _ _) _⟩
    · have HL : Hid (lesserL xs i j = i) := if_neg fun h => hlt h.2
      rw [HL.out]
      generalize at0 xs i = xi at *
      generalize at0 xs j = xj at *
      generalize xs.length = n at *
      have hlb : decide (xj < xi) = false := decide_eq_false hlt
      clear h
      go_enter Try.func30, Try.ntmps30
      go_wp2_with fail
      go_quiet (fail)
      go_wp2_with fail
      go_ret
      exact ⟨rfl, HH.out.drewN _, grown_drewN (grown_refl _ _) _⟩
  · exact lesser_far H base g c xs i j w h hj
end Go.Proofs.Ythadgepihjigeaa
