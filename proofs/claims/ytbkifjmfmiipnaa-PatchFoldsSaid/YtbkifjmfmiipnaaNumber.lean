/- The document's number of four bytes at a place: the walk. -/
import Derived.Test.YtbkifjmfmiipnaaRefMath
namespace Go.Proofs.Ytbkifjmfmiipnaa
open Go.RowKit Plain
set_option linter.unusedVariables false
theorem num_4 (xs : List Int) (at' : Nat) (h : at' + 4 ≤ xs.length) : num (sub xs at' 4) = ((xs[at']?.getD 0).toNat * 16777216 + (xs[at' + 1]?.getD 0).toNat * 65536 + (xs[at' + 2]?.getD 0).toNat * 256 + (xs[at' + 3]?.getD 0).toNat) := by
  have e : sub xs at' 4 = [xs[at']?.getD 0, xs[at' + 1]?.getD 0, xs[at' + 2]?.getD 0, xs[at' + 3]?.getD 0] := by
    unfold sub
    rw [List.drop_eq_getElem_cons (by omega), List.drop_eq_getElem_cons (by omega), List.drop_eq_getElem_cons (by omega), List.drop_eq_getElem_cons (by omega)]
    simp only [List.take_succ_cons, List.take_zero]
    rw [List.getElem?_eq_getElem (by omega), List.getElem?_eq_getElem (by omega), List.getElem?_eq_getElem (by omega), List.getElem?_eq_getElem (by omega)]
    rfl
  rw [e]
  simp [num]
  omega
theorem num_lt4 (w : World) (a : Option Addr) (m : Nat) (xs : List Int) (H : Bytes w a m xs) (at' : Nat) (h : at' + 4 ≤ m) : num (sub xs at' 4) < 4294967296 := by
  rw [num_4 xs at' (by rw [H.1]; exact h)]
  have h0 := H.2.2.1 at'
  have h1 := H.2.2.1 (at' + 1)
  have h2 := H.2.2.1 (at' + 2)
  have h3 := H.2.2.1 (at' + 3)
  omega
theorem wp_one {P : Program} {c : Code} {Q : Exit → Act → World → Prop} {a : Act} {w : World} (A : Act) (W : World) (h1 : c.wp P (fun e a' w' => e = .normal ∧ a' = A ∧ w' = W) a w) (h2 : Q .normal A W) : c.wp P Q a w := by
  refine wp_mono h1 fun e a' w' ⟨he, ha, hw⟩ => ?_
  subst he ha hw
  exact h2
set_option maxHeartbeats 4000000 in
theorem number_any (a : Option Addr) (m cap : Nat) (xs : List Int) (at' : Nat) (w : World) (hm : m ≤ cap) (hat : at' + 4 ≤ m) (hl : m ≤ 1000000) (H : Bytes w a m xs) :
    Calls Try.prog 18 #[.slice a m cap, .int .i64 (at' : Int)] w fun e w' => e = .returned (.int .i64 (num (sub xs at' 4) : Int)) ∧ w' = w.drew := by
  have HE : Hid (num (sub xs at' 4) = ((xs[at']?.getD 0).toNat * 16777216 + (xs[at' + 1]?.getD 0).toNat * 65536 + (xs[at' + 2]?.getD 0).toNat * 256 + (xs[at' + 3]?.getD 0).toNat)) := num_4 xs at' (by rw [H.1]; exact hat)
  obtain ⟨hz, -, hr, h0 | ⟨b, off, rfl, hc⟩⟩ := H
  · omega
  have c0 := hc at' (by omega)
  have c1 := hc (at' + 1) (by omega)
  have c2 := hc (at' + 2) (by omega)
  have c3 := hc (at' + 3) (by omega)
  have r0 := hr at'
  have r1 := hr (at' + 1)
  have r2 := hr (at' + 2)
  have r3 := hr (at' + 3)
  clear hc hr
  generalize xs[at']?.getD 0 = x0 at *
  generalize xs[at' + 1]?.getD 0 = x1 at *
  generalize xs[at' + 2]?.getD 0 = x2 at *
  generalize xs[at' + 3]?.getD 0 = x3 at *
  go_enter Try.func18, Try.ntmps18
  have j0 : (0 : Int) ≤ (at' : Int) := by omega
  have j1 : (0 : Int) ≤ (at' : Int) + 1 := by omega
  have j2 : (0 : Int) ≤ (at' : Int) + 2 := by omega
  have j3 : (0 : Int) ≤ (at' : Int) + 3 := by omega
  have i0 : (at' : Int) < m := by omega
  have i1 : (at' : Int) + 1 < m := by omega
  have i2 : (at' : Int) + 2 < m := by omega
  have i3 : (at' : Int) + 3 < m := by omega
  have k1 : IntKind.i64.wrap ((at' : Int) + 1) = (at' : Int) + 1 := by rw [IntKind.wrap_i64]; omega
  have k2 : IntKind.i64.wrap ((at' : Int) + 2) = (at' : Int) + 2 := by rw [IntKind.wrap_i64]; omega
  have k3 : IntKind.i64.wrap ((at' : Int) + 3) = (at' : Int) + 3 := by rw [IntKind.wrap_i64]; omega
  have t1 : ((at' : Int) + 1).toNat = at' + 1 := by omega
  have t2 : ((at' : Int) + 2).toNat = at' + 2 := by omega
  have t3 : ((at' : Int) + 3).toNat = at' + 3 := by omega
  have e0 : IntKind.i64.wrap x0 = x0 := by rw [IntKind.wrap_i64]; omega
  have e1 : IntKind.i64.wrap x1 = x1 := by rw [IntKind.wrap_i64]; omega
  have e2 : IntKind.i64.wrap x2 = x2 := by rw [IntKind.wrap_i64]; omega
  have e3 : IntKind.i64.wrap x3 = x3 := by rw [IntKind.wrap_i64]; omega
  have f0 : IntKind.i64.wrap (x0 * 16777216) = x0 * 16777216 := by rw [IntKind.wrap_i64]; omega
  have f1 : IntKind.i64.wrap (x1 * 65536) = x1 * 65536 := by rw [IntKind.wrap_i64]; omega
  have f2 : IntKind.i64.wrap (x2 * 256) = x2 * 256 := by rw [IntKind.wrap_i64]; omega
  have f3 : IntKind.i64.wrap (x0 * 16777216 + x1 * 65536) = x0 * 16777216 + x1 * 65536 := by rw [IntKind.wrap_i64]; omega
  have f4 : IntKind.i64.wrap (x0 * 16777216 + x1 * 65536 + x2 * 256) = x0 * 16777216 + x1 * 65536 + x2 * 256 := by rw [IntKind.wrap_i64]; omega
  have f5 : IntKind.i64.wrap (x0 * 16777216 + x1 * 65536 + x2 * 256 + x3) = x0 * 16777216 + x1 * 65536 + x2 * 256 + x3 := by rw [IntKind.wrap_i64]; omega
  go_wp2_with fail
  apply wp_one
  · go_region_held3 (fun W => W.cell? ⟨b, off + at', none⟩ = some (.int .u8 x0) ∧ W.cell? ⟨b, off + (at' + 1), none⟩ = some (.int .u8 x1) ∧ W.cell? ⟨b, off + (at' + 2), none⟩ = some (.int .u8 x2) ∧ W.cell? ⟨b, off + (at' + 3), none⟩ = some (.int .u8 x3))
        (first | go_keep | (exact ⟨c0, c1, c2, c3⟩) | assumption) (fail)
    all_goals exact ⟨rfl, rfl, rfl⟩
  go_wp2_with fail
  go_ret
  rw [HE.out]
  exact ⟨congrArg (fun x => Ending.returned (.int .i64 x)) (by omega), rfl⟩
end Go.Proofs.Ytbkifjmfmiipnaa
