/- Two patches as one: the walk. -/
import Derived.Test.YtbkifjmfmiipnaaMake
import Derived.Test.YtbkifjmfmiipnaaApply
namespace Go.Proofs.Ytbkifjmfmiipnaa
open Go.RowKit Plain
set_option linter.unusedVariables false
theorem fold_any (ap : Option Addr) (mp cp : Nat) (p : List Int) (aq : Option Addr) (mq cq : Nat) (q : List Int) (a0 : Option Addr) (m0 c0 : Nat) (base : List Int) (e1 e2 : Nat) (x y : List Int) (w : World)
    (hp : mp ≤ cp) (hpn : ap = none → cp = 0) (hpl : mp ≤ 1000000) (HP : Bytes w ap mp p) (hq : mq ≤ cq) (hqn : aq = none → cq = 0) (hql : mq ≤ 1000000) (HQ : Bytes w aq mq q) (h0 : m0 ≤ c0) (hn0 : a0 = none → c0 = 0) (hl0 : m0 ≤ 10000) (HB : Bytes w a0 m0 base)
    (r1 : applyOf base p 9223372036854775807 = (e1, x)) (r2 : applyOf x q 9223372036854775807 = (e2, y)) (hx : x.length ≤ 10000) (hy : y.length ≤ 10000) (rx : ∀ z ∈ x, 0 ≤ z ∧ z ≤ 255) (ry : ∀ z ∈ y, 0 ≤ z ∧ z ≤ 255) :
    Calls Try.prog 15 #[.slice ap mp cp, .slice aq mq cq, .slice a0 m0 c0] w fun e w' => ((e1 ≠ 0 ∧ e = .returned (.tuple #[.slice none 0 0, .int .i64 (e1 : Int)])) ∨ (e1 = 0 ∧ e2 ≠ 0 ∧ e = .returned (.tuple #[.slice none 0 0, .int .i64 (e2 : Int)])) ∨
      (e1 = 0 ∧ e2 = 0 ∧ ∃ a n c, e = .returned (.tuple #[.slice a n c, .int .i64 0]) ∧ Own w' w.heap.size (.slice a n c) n (makeOf base y))) ∧ Below w.heap.size w w' := by
  have HPP : Hid (Bytes w ap mp p) := HP
  have HQQ : Hid (Bytes w aq mq q) := HQ
  have HBB : Hid (Bytes w a0 m0 base) := HB
  have HPN : Hid (ap = none → cp = 0) := hpn
  have HQN : Hid (aq = none → cq = 0) := hqn
  have HBN : Hid (a0 = none → c0 = 0) := hn0
  have HR1 : Hid (applyOf base p 9223372036854775807 = (e1, x)) := r1
  have HR2 : Hid (applyOf x q 9223372036854775807 = (e2, y)) := r2
  have HXR : Hid (∀ j : Nat, 0 ≤ x[j]?.getD 0 ∧ x[j]?.getD 0 ≤ 255) := range_of_mem rx
  have HYR : Hid (∀ j : Nat, 0 ≤ y[j]?.getD 0 ∧ y[j]?.getD 0 ≤ 255) := range_of_mem ry
  obtain ⟨nx, hnx⟩ : ∃ n, x.length = n := ⟨_, rfl⟩
  obtain ⟨ny, hny⟩ : ∃ n, y.length = n := ⟨_, rfl⟩
  have HNX : Hid (x.length = nx) := hnx
  have HNY : Hid (y.length = ny) := hny
  rw [hnx] at hx
  rw [hny] at hy
  clear HP HQ HB hpn hqn hn0 r1 r2 rx ry hnx hny
  go_enter Try.func15, Try.ntmps15
  go_wp2_with fail
  refine (apply_any a0 m0 c0 base ap mp cp p 9223372036854775807 w h0 HBN.out (by omega) HBB.out hp HPN.out hpl HPP.out).mono ?_
  rw [HR1.out]
  rintro e w1 ⟨⟨v1, rfl, hv1⟩, hb1⟩
  dsimp only at hv1 ⊢
  rw [HNX.out] at hv1
  obtain ⟨va1, vc1, rfl, hvc, hvn, -⟩ := hv1.shape
  have HW1 : Hid (Below w.heap.size w w1) := hb1
  have HX1 : Hid (Bytes w1 va1 nx x) := hv1.bytes HXR.out
  have HV1 : Hid (va1 = none → vc1 = 0) := hvn
  clear hv1 hb1 hvn
  by_cases he1 : e1 = 0
  · subst he1
    go_wp2_with fail
    refine (apply_any va1 nx vc1 x aq mq cq q 9223372036854775807 w1 hvc HV1.out (by omega) HX1.out hq HQN.out hql (HQQ.out.below HW1.out)).mono ?_
    rw [HR2.out]
    rintro e w2 ⟨⟨v2, rfl, hv2⟩, hb2⟩
    dsimp only at hv2 ⊢
    rw [HNY.out] at hv2
    obtain ⟨va2, vc2, rfl, hvc2, hvn2, -⟩ := hv2.shape
    have HW2 : Hid (Below w.heap.size w w2) := HW1.out.trans (hb2.mono HW1.out.size)
    have HY2 : Hid (Bytes w2 va2 ny y) := hv2.bytes HYR.out
    have HV2 : Hid (va2 = none → vc2 = 0) := hvn2
    clear hv2 hb2 hvn2
    by_cases he2 : e2 = 0
    · subst he2
      go_wp2_with fail
      refine (make_any a0 m0 c0 base va2 ny vc2 y w2 h0 HBN.out hl0 (HBB.out.below HW2.out) hvc2 HV2.out hy HY2.out).mono ?_
      rintro e w3 ⟨⟨a, n, c, rfl, ho⟩, hb3⟩
      have HO3 : Hid (Own w3 w.heap.size (.slice a n c) n (makeOf base y)) := ho.lower HW2.out.size
      have HW3 : Hid (Below w.heap.size w w3) := HW2.out.trans (hb3.mono HW2.out.size)
      clear ho hb3
      go_wp2_with fail
      go_ret2
      exact ⟨⟨a, n, c, rfl, HO3.out⟩, HW3.out⟩
    · have i2 : ¬ (e2 : Int) = 0 := by omega
      go_wp2_with fail
      go_ret2
      exact ⟨rfl, HW2.out⟩
  · have i1 : ¬ (e1 : Int) = 0 := by omega
    go_wp2_with fail
    go_ret2
    exact ⟨.inl ⟨he1, rfl⟩, HW1.out⟩
end Go.Proofs.Ytbkifjmfmiipnaa
