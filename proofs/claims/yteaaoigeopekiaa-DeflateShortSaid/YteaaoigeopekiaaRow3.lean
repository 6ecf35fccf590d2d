/- Three bytes as a row: the walk; as a key. -/
import Derived.Test.YteaaoigeopekiaaPutLen
import Derived.Maps.Keyed
import Derived.Maps.Own
import Derived.WideKeyArr2
import Derived.Maps.Views
namespace Go.Proofs.Yteaaoigeopekiaa
open Go.RowKit Go.WideMaps Go.Maps Plain
set_option linter.unusedVariables false
def row3 (bs : List Int) (p : Nat) : Array Value := #[.int .u8 (bs[p]?.getD 0), .int .u8 (bs[p + 1]?.getD 0), .int .u8 (bs[p + 2]?.getD 0)]
theorem row3_eq (bs : List Int) (p q : Nat) : row3 bs p = row3 bs q ↔ bs[p]?.getD 0 = bs[q]?.getD 0 ∧ bs[p + 1]?.getD 0 = bs[q + 1]?.getD 0 ∧ bs[p + 2]?.getD 0 = bs[q + 2]?.getD 0 := by
  unfold row3
  simp
theorem arrKey3 : ArrKey Try.prog 86 5 3 where
  hu := Try.underlying86
  plain := by kernel_rfl
  one := by kernel_rfl
  size := by kernel_rfl
theorem typesMore : ∃ m, Try.prog.types.size = m + 1 := ⟨Try.prog.types.size - 1, by kernel_rfl⟩
theorem mapM_some {α β : Type} (f : α → Option β) : ∀ l : List α, (∀ a ∈ l, ∃ b, f a = some b) → ∃ bs, l.mapM f = some bs
  | [], _ => ⟨[], rfl⟩
  | a :: l, h => by
    obtain ⟨b, hb⟩ := h a (by simp)
    obtain ⟨bs, hbs⟩ := mapM_some f l (fun x hx => h x (by simp [hx]))
    exact ⟨b :: bs, by simp [List.mapM_cons, hb, hbs]⟩
theorem key_row (row : Array Value) (h : row.size = 3) (hr : ∀ j, j < 3 → ∃ x : Int, row.toList[j]? = some (.int .u8 x) ∧ 0 ≤ x ∧ x ≤ 255) : ∃ kl, keyOf Try.prog 86 (.agg row) = some kl := by
  have hkt := arrKey3.keyType typesMore
  obtain ⟨m, hm⟩ := typesMore
  obtain ⟨m', hm'⟩ : ∃ m', m = m' + 1 := by
    have h2 : 2 ≤ Try.prog.types.size := by decide +kernel
    exact ⟨m - 1, by omega⟩
  subst hm'
  unfold keyOf
  simp only [arrKey3.hu]
  rw [if_pos (by simp [hkt, Value.formed, arrKey3.hu, arrKey3.size, h]), hm]
  unfold Program.keyLits
  simp only [arrKey3.hu, Value.cells]
  rw [if_pos (by rw [arrKey3.size, Array.length_toList, h])]
  obtain ⟨bs, hbs⟩ := mapM_some (fun i => Try.prog.keyLits (m' + 1 + 1) 5 ((row.toList.drop (i * Try.prog.cellsOf 5)).take (Try.prog.cellsOf 5))) (List.range 3) (fun i hi => by
    rw [List.mem_range] at hi
    obtain ⟨x, hx, h0, h1⟩ := hr i hi
    rw [arrKey3.one, Nat.mul_one]
    have hd : (row.toList.drop i).take 1 = [.int .u8 x] := by
      obtain ⟨hlt, hv⟩ := List.getElem?_eq_some_iff.1 hx
      rw [List.drop_eq_getElem_cons hlt, hv]; rfl
    rw [hd]
    refine ⟨[.int .u8 x], ?_⟩
    unfold Program.keyLits
    have hu : Try.prog.underlying 5 = some (.int .u8) := Try.underlying5
    have hw : (Lit.int .u8 x).wf = true := by
      have e1 : IntKind.min .u8 = 0 := by decide
      have e2 : IntKind.max .u8 = 255 := by decide
      show (decide (IntKind.min .u8 ≤ x) && decide (x ≤ IntKind.max .u8)) = true
      rw [e1, e2]; simp; omega
    simp [hu, hw])
  rw [hbs]
  exact ⟨_, rfl⟩
theorem row3_key (bs : List Int) (p : Nat) (hb : ∀ j : Nat, 0 ≤ bs[j]?.getD 0 ∧ bs[j]?.getD 0 ≤ 255) : ∃ kl, keyOf Try.prog 86 (.agg (row3 bs p)) = some kl := by
  refine key_row _ rfl (fun j hj => ?_)
  have : j = 0 ∨ j = 1 ∨ j = 2 := by omega
  rcases this with rfl | rfl | rfl
  · exact ⟨_, rfl, (hb _).1, (hb _).2⟩
  · exact ⟨_, rfl, (hb _).1, (hb _).2⟩
  · exact ⟨_, rfl, (hb _).1, (hb _).2⟩
theorem keyed3 : Keyed Try.prog 86 := Keyed.of_law arrKey3.law
theorem Bytes.cellOf {w : World} {b off n : Nat} {xs : List Int} (h : Bytes w (some ⟨b, off, none⟩) n xs) (j : Nat) (hj : j < n) : w.cell? ⟨b, off + j, none⟩ = some (.int .u8 (xs[j]?.getD 0)) := by
  rcases h.2.2.2 with h | ⟨b', off', h1, h2⟩
  · omega
  · injection h1 with h1
    injection h1 with e1 e2
    subst e1 e2
    exact h2 j hj
set_option maxRecDepth 100000 in
set_option maxHeartbeats 4000000 in
theorem rowAt_any (a : Option Addr) (m c : Nat) (bs : List Int) (p : Nat) (hp : p + 3 ≤ m) (hm : m ≤ 1000000000) (w : World) (H : Bytes w a m bs) :
    Calls Try.prog 52 #[.slice a m c, .int .i64 (p : Int)] w fun e w' => e = .returned (.agg (row3 bs p)) ∧ Below w.heap.size w w' := by
  obtain ⟨b, off, rfl⟩ : ∃ b off, a = some ⟨b, off, none⟩ := by
    rcases H.2.2.2 with h | ⟨b, off, rfl, -⟩
    · omega
    · exact ⟨b, off, rfl⟩
  have hal : Below w.heap.size w (w.alloc (.cells #[.int .u8 0, .int .u8 0, .int .u8 0] 86)) := (Below.refl _ _).alloc (Nat.le_refl _) _
  have k0 := (H.below hal).cellOf p (by omega)
  have k1 := (H.below hal).cellOf (p + 1) (by omega)
  have k2 := (H.below hal).cellOf (p + 2) (by omega)
  have hx0 := H.2.2.1 p
  have hx1 := H.2.2.1 (p + 1)
  have hx2 := H.2.2.1 (p + 2)
  have HR : Hid (row3 bs p = #[.int .u8 (bs[p]?.getD 0), .int .u8 (bs[p + 1]?.getD 0), .int .u8 (bs[p + 2]?.getD 0)]) := rfl
  generalize row3 bs p = R at *
  generalize bs[p]?.getD 0 = x0 at *
  generalize bs[p + 1]?.getD 0 = x1 at *
  generalize bs[p + 2]?.getD 0 = x2 at *
  have i0 : (p : Int) < (m : Int) := by omega
  have i1 : (p : Int) + 1 < (m : Int) := by omega
  have i2 : (p : Int) + 2 < (m : Int) := by omega
  clear H hal
  go_enter Try.func52, Try.ntmps52
  go_wp2_with fail
  go_region
  go_wp2_with fail
  have hg : (w.alloc (.cells #[.int .u8 x0, .int .u8 x1, .int .u8 x2] 86)).drew.heap[w.heap.size]? = some (.cells #[.int .u8 x0, .int .u8 x1, .int .u8 x2] 86 (0, 0)) := by
    show (w.heap.push _)[w.heap.size]? = _
    simp
  refine bodyPost_ret (results_cell_row Try.results52 _ _ w.heap.size 86 _ (0, 0) (.array 3 5) rfl hg Try.underlying86 rfl (by kernel_rfl)) rfl ⟨by rw [HR.out], ((Below.refl _ _).alloc (Nat.le_refl _) _).drew⟩
end Go.Proofs.Yteaaoigeopekiaa
