/- What the map tells of a place in the target: the walk. -/
import Derived.Test.YtkpnmagcmpljoaaKeys
namespace Go.Proofs.Ytkpnmagcmpljoaa
open Go.RowKit
set_option linter.unusedVariables false
set_option maxRecDepth 100000 in
set_option maxHeartbeats 8000000 in
theorem lookUp_any (b n : Nat) (bs : List Int) (a : Option Addr) (m c : Nat) (ts : List Int) (hmc : m ≤ c) (hcm : c ≤ 9223372036854775807) (hm : m ≤ 1000000000) (p : Nat) (hp : p < m) (w : World) (H : Bytes w a m ts) (HM : MapAt w b n bs) :
    Calls Try.prog 21 #[.map (some b), .slice a m c, .int .i64 (p : Int)] w fun e w' =>
      ((e = .returned (.tuple #[.int .i64 0, .bool false]) ∧ (p + 16 ≤ m → blockOf ts p = blockOf bs 0 → n = 0)) ∨ ∃ q : Nat, q + 16 ≤ bs.length ∧ q ≤ 4294967295 ∧ p + 16 ≤ m ∧ blockOf ts p = blockOf bs q ∧ (blockOf ts p = blockOf bs 0 → q = 0) ∧ e = .returned (.tuple #[.int .i64 (q : Int), .bool true])) ∧ Below w.heap.size w w' := by
  have hl : ts.length = m := H.1
  have HY := Lib.hid H
  have HMM := Lib.hid HM
  clear H HM
  have hps : (p : Int) + 16 ≤ 2000000000 := by omega
  by_cases h1 : m < p + 16
  · have h1i : (m : Int) < (p : Int) + 16 := by omega
    go_enter Try.func21, Try.ntmps21
    go_wp2_with fail
    go_ret2
    exact ⟨.inl ⟨rfl, fun h => absurd h (by omega)⟩, Below.refl _ _⟩
  · have h1i : ¬ (m : Int) < (p : Int) + 16 := by omega
    obtain ⟨kl, hkl⟩ := block_key ts p (by omega) HY.out.2.2.1
    have hblk := blockAt_any a m c ts hmc hcm p (by omega) w HY.out
    go_enter Try.func21, Try.ntmps21
    go_wp2_with fail
    refine hblk.mono ?_
    rintro e w1 ⟨rfl, hb1⟩
    have HB1 := Lib.hid hb1
    have HM1 := HMM.out.block (hb1.block b HMM.out.lt)
    clear hblk hb1
    rcases HM1.look _ kl hkl with ⟨q0, hrun⟩ | ⟨q, q1, q2, q3, q4, -, hrun⟩
    · have Q0 := Lib.hid q0
      clear q0
      go_wp2_with fail
      go_ret2
      exact ⟨.inl ⟨rfl, fun _ => Q0.out⟩, HB1.out⟩
    · have Q3 := Lib.hid q3
      have Q4 := Lib.hid q4
      clear q3 q4
      go_wp2_with fail
      go_ret2
      exact ⟨.inr ⟨q, q1, q2, by omega, Q3.out, Q4.out, rfl⟩, HB1.out⟩
end Go.Proofs.Ytkpnmagcmpljoaa
