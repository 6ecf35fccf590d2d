/- inflate.Raw. -/
import Derived.Test.YtkminkeaeclanaaRunRaw
import Derived.Test.YtkminkeaeclanaaRawErr
import Derived.BigQuiet
namespace Go.Proofs.Ytkminkeaeclanaa
open Go.RowKit Plain
set_option linter.unusedVariables false
/-- What Raw tells. -/
def RawP (w : World) (most : Nat) (bs : List Int) (e : Ending) (w' : World) : Prop :=
  (∃ q m mv, rawOf bs most = .ok (q, m) ∧ e = .returned (.tuple #[mv, .int .i64 (((q + 7) / 8 : Nat) : Int), .int .i64 0]) ∧ Mid w' w.heap.size mv m.length m ∧ m.length ≤ most ∧ (∀ x ∈ m, 0 ≤ x ∧ x ≤ 255) ∧ Below w.heap.size w w') ∨
    ∃ k, rawOf bs most = .error k ∧ e = .returned (.tuple #[.slice none 0 0, .int .i64 0, .int .i64 (k : Int)]) ∧ Below w.heap.size w w'
theorem start_out (w : World) (ba : Option Addr) (bn bc N most : Nat) : OutL 8 w w.heap.size ba bn bc N most (w.alloc (.cells (cellsO ba bn bc 0 0 0 (.slice none 0 0) most) 41)) 0 (.slice none 0 0) [] :=
  ⟨0, 0, 0, heap_alloc_new w _, rfl, by omega, Nat.zero_le _, (Nat.mod_one _).symm, Mid.nil _ _, by simp [Value.ownBlock], (Below.refl _ _).alloc (Nat.le_refl _) _, Nat.le_refl _, Nat.zero_le _, by simp⟩
theorem Turn.whole {mv : Value} {w w' : World} {v : Obj} (h : Turn w.heap.size (.slice none 0 0) mv (w.alloc v) w') : Below w.heap.size w w' :=
  ⟨h.os, h.tape, h.output, by have := h.size; rw [World.size_alloc] at this; omega, fun k hk => (h.block k (by rw [World.size_alloc]; omega) (by omega) (by simp [Value.ownBlock])).trans (((Below.refl _ w).alloc (Nat.le_refl _) v).block k hk)⟩
theorem RawP.drewN {w w' : World} {most : Nat} {bs : List Int} {e : Ending} (h : RawP w most bs e w') (n : Nat) : RawP w most bs e (w'.drewN n) := by
  obtain ⟨q, m, mv, h1, h2, h3, h4, h5, h6⟩ | ⟨k, h1, h2, h3⟩ := h
  · exact .inl ⟨q, m, mv, h1, h2, h3, h4, h5, ⟨h6.os, h6.tape, h6.output, h6.size, h6.block⟩⟩
  · exact .inr ⟨k, h1, h2, ⟨h3.os, h3.tape, h3.output, h3.size, h3.block⟩⟩
set_option maxRecDepth 100000 in
set_option maxHeartbeats 4000000 in
theorem raw_any (w : World) (ba : Option Addr) (bc : Nat) (M : Int) (most : Nat) (bs : List Int) (HS : SrcB w ba bs.length bc (streamN bs) most bs) (hM : most = M.toNat) :
    Calls Try.prog 8 #[.slice ba bs.length bc, .int .i64 M] w (RawP w most bs) := by
  have hrun0 := run_any HS _ 0 _ _ (start_out w ba bs.length bc (streamN bs) most)
  have hmf : ∀ (fn : Fn) (first cap : Array Value) (w : World), (Instr.makeFunc fn first cap).run Try.prog w = .ok (.func fn first cap) w := fun _ _ _ _ => rfl
  have hM2 : Hid (∀ mm : Int, mm = (most : Int) → Calls Try.prog 14 #[.func (.func 15) #[] #[.pointer (some ⟨w.heap.size, 0, none⟩)]] (w.alloc (.cells #[.slice ba bs.length bc, .int .i64 0, .int .u64 0, .int .i64 0, .slice none 0 0, .int .i64 mm] 41)) (RunP w w.heap.size ba bs.length bc (streamN bs) most (w.alloc (.cells (cellsO ba bs.length bc 0 0 0 (.slice none 0 0) most) 41)) (.slice none 0 0) (rawOf bs most))) := fun mm e => by subst e; exact hrun0
  clear hrun0 HS
  have HM := Lib.hid hM
  clear hM
  go_enter Try.func8, Try.ntmps8
  by_cases hM0 : 0 ≤ M
  · have hrun := hM2.out M (by rw [HM.out]; omega)
    go_wp2_with fail
    refine hrun.mono ?_
    intro e w2 hgot
    obtain ⟨q, m, mv', hr, rfl, ht, ho⟩ | ⟨k, hr, rfl, mv', ht⟩ := hgot
    · obtain ⟨at_, held, left, hh, h1, h2, h3, -, hmid, -, hbel, -, hlen, hran⟩ := ho
      have hat : at_ = (q + 7) / 8 := by omega
      obtain ⟨va, vc, hv, -⟩ := hmid.shape
      subst hv
      have hcs := raw_cells hh
      obtain ⟨c0, c1, c2, c3, c4, c5⟩ := hcs
      have HRR : Hid (RawP w most bs (.returned (.tuple #[.slice va m.length vc, .int .i64 (at_ : Int), .int .i64 0])) w2) := .inl ⟨q, m, _, hr, by rw [hat], hmid, hlen, hran, ht.whole⟩
      clear hrun hr ht hh h1 h2 h3 hmid hbel hlen hran hat c0 c2 c3 c5
      go_wp2_with fail
      go_quiet (fail)
      have HRd := Lib.hid (HRR.out.drewN nq)
      go_wp2_with fail
      go_ret3
      exact HRd.out
    · have hk := nz_raw hr
      have hki : ¬ ((k : Int) = 0) := by omega
      have hkb : ((k : Int) == 0) = false := by simp; omega
      have hkc : ((k : Int) != 0) = true := by simp; omega
      have HRR : Hid (RawP w most bs (.returned (.tuple #[.slice none 0 0, .int .i64 0, .int .i64 (k : Int)])) w2) := .inr ⟨k, hr, rfl, ht.whole⟩
      clear hrun hr ht hk
      go_wp2_with fail
      go_ret3
      exact HRR.out
  · have hrun := hM2.out 0 (by rw [HM.out]; omega)
    have hM1 : M < 0 := by omega
    go_wp2_with fail
    refine hrun.mono ?_
    intro e w2 hgot
    obtain ⟨q, m, mv', hr, rfl, ht, ho⟩ | ⟨k, hr, rfl, mv', ht⟩ := hgot
    · obtain ⟨at_, held, left, hh, h1, h2, h3, -, hmid, -, hbel, -, hlen, hran⟩ := ho
      have hat : at_ = (q + 7) / 8 := by omega
      obtain ⟨va, vc, hv, -⟩ := hmid.shape
      subst hv
      have hcs := raw_cells hh
      obtain ⟨c0, c1, c2, c3, c4, c5⟩ := hcs
      have HRR : Hid (RawP w most bs (.returned (.tuple #[.slice va m.length vc, .int .i64 (at_ : Int), .int .i64 0])) w2) := .inl ⟨q, m, _, hr, by rw [hat], hmid, hlen, hran, ht.whole⟩
      clear hrun hr ht hh h1 h2 h3 hmid hbel hlen hran hat c0 c2 c3 c5
      go_wp2_with fail
      go_quiet (fail)
      have HRd := Lib.hid (HRR.out.drewN nq)
      go_wp2_with fail
      go_ret3
      exact HRd.out
    · have hk := nz_raw hr
      have hki : ¬ ((k : Int) = 0) := by omega
      have hkb : ((k : Int) == 0) = false := by simp; omega
      have hkc : ((k : Int) != 0) = true := by simp; omega
      have HRR : Hid (RawP w most bs (.returned (.tuple #[.slice none 0 0, .int .i64 0, .int .i64 (k : Int)])) w2) := .inr ⟨k, hr, rfl, ht.whole⟩
      clear hrun hr ht hk
      go_wp2_with fail
      go_ret3
      exact HRR.out
end Go.Proofs.Ytkminkeaeclanaa
