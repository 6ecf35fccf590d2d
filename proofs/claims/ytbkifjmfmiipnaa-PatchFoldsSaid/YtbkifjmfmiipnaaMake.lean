/- A patch by which a base becomes a target: the walk. -/
import Derived.Test.YtbkifjmfmiipnaaPrinted
import Derived.Test.YtbkifjmfmiipnaaEndsRun
namespace Go.Proofs.Ytbkifjmfmiipnaa
open Go.RowKit Plain
set_option linter.unusedVariables false
theorem wp_two {P : Program} {c : Code} {Q : Exit → Act → World → Prop} {a : Act} {w : World} {R : Nat → Nat → World → Prop} (A : Nat → Nat → Act) (h1 : c.wp P (fun e a' w' => e = .normal ∧ ∃ x y, a' = A x y ∧ R x y w') a w) (h2 : ∀ x y W, R x y W → Q .normal (A x y) W) : c.wp P Q a w := by
  refine wp_mono h1 fun e a' w' ⟨he, x, y, ha, hr⟩ => ?_
  subst he ha
  exact h2 x y w' hr
theorem two_new (w : World) (v1 v2 : Value) (t : TypeId) : ((w.alloc (.cells #[v1] t)).alloc (.cells #[v2] t)).drew.cell? ⟨w.heap.size, 0, none⟩ = some v1 ∧ ((w.alloc (.cells #[v1] t)).alloc (.cells #[v2] t)).drew.cell? ⟨w.heap.size + 1, 0, none⟩ = some v2 ∧
    w.heap.size < ((w.alloc (.cells #[v1] t)).alloc (.cells #[v2] t)).drew.heap.size ∧ w.heap.size + 1 < ((w.alloc (.cells #[v1] t)).alloc (.cells #[v2] t)).drew.heap.size ∧ Below w.heap.size w ((w.alloc (.cells #[v1] t)).alloc (.cells #[v2] t)).drew := by
  have hs : ((w.alloc (.cells #[v1] t)).alloc (.cells #[v2] t)).drew.heap.size = w.heap.size + 1 + 1 := by
    show ((w.alloc (.cells #[v1] t)).alloc (.cells #[v2] t)).heap.size = _
    simp
  refine ⟨?_, ?_, by omega, by omega, (((Below.refl _ _).alloc (Nat.le_refl _) _).alloc (by simp) _).drew⟩
  · exact (cell_of_row ((w.alloc (.cells #[v1] t)).alloc (.cells #[v2] t)) _ 0 _ _ ((Below.heap_alloc _ _ _ (by simp)).trans (heap_alloc_new w _))).trans rfl
  · have := heap_alloc_new (w.alloc (.cells #[v1] t)) (.cells #[v2] t)
    rw [World.size_alloc] at this
    exact (cell_of_row ((w.alloc (.cells #[v1] t)).alloc (.cells #[v2] t)) _ 0 _ _ this).trans rfl
set_option maxRecDepth 100000 in
set_option maxHeartbeats 8000000 in
theorem make_any (a0 : Option Addr) (m0 c0 : Nat) (base : List Int) (a1 : Option Addr) (m1 c1 : Nat) (target : List Int) (w : World) (h0 : m0 ≤ c0) (hn0 : a0 = none → c0 = 0) (hl0 : m0 ≤ 10000) (HB : Bytes w a0 m0 base)
    (h1 : m1 ≤ c1) (hn1 : a1 = none → c1 = 0) (hl1 : m1 ≤ 10000) (HP : Bytes w a1 m1 target) :
    Calls Try.prog 13 #[.slice a0 m0 c0, .slice a1 m1 c1] w fun e w' => (∃ a' n' c', e = .returned (.slice a' n' c') ∧ Own w' w.heap.size (.slice a' n' c') n' (makeOf base target)) ∧ Below w.heap.size w w' := by
  have HB0 : Hid (Bytes w a0 m0 base) := HB
  have HB1 : Hid (Bytes w a1 m1 target) := HP
  have HN0 : Hid (a0 = none → c0 = 0) := hn0
  have HN1 : Hid (a1 = none → c1 = 0) := hn1
  obtain ⟨W0, hW0⟩ : ∃ W0, (w.alloc (.cells #[.slice a0 m0 c0] 22)).alloc (.cells #[.slice a1 m1 c1] 22) = W0 := ⟨_, rfl⟩
  have HW0 : Hid (Below w.heap.size w W0) := by rw [← hW0]; exact ((Below.refl _ _).alloc (Nat.le_refl _) _).alloc (by simp) _
  have HS0 : Hid (W0.heap.size = w.heap.size + 1 + 1) := by rw [← hW0]; show _ = _; simp
  have HC0 : Hid (W0.cell? ⟨w.heap.size, 0, none⟩ = some (.slice a0 m0 c0)) := by
    rw [← hW0]
    exact (cell_of_row _ _ 0 _ _ ((Below.heap_alloc _ _ _ (by simp)).trans (heap_alloc_new w _))).trans rfl
  have HC1 : Hid (W0.cell? ⟨w.heap.size + 1, 0, none⟩ = some (.slice a1 m1 c1)) := by
    rw [← hW0]
    have := heap_alloc_new (w.alloc (.cells #[.slice a0 m0 c0] 22)) (.cells #[.slice a1 m1 c1] 22)
    rw [World.size_alloc] at this
    exact (cell_of_row _ _ 0 _ _ this).trans rfl
  have HCW : Hid (∀ W, Below W0.heap.size W0 W → W.cell? ⟨w.heap.size, 0, none⟩ = some (.slice a0 m0 c0) ∧ W.cell? ⟨w.heap.size + 1, 0, none⟩ = some (.slice a1 m1 c1)) := fun W hW =>
    ⟨(hW.cell (p := ⟨_, _, none⟩) (by rw [HS0.out]; show w.heap.size < _; omega)).trans HC0.out, (hW.cell (p := ⟨_, _, none⟩) (by rw [HS0.out]; show w.heap.size + 1 < _; omega)).trans HC1.out⟩
  have HBW : Hid (∀ W, Below W0.heap.size W0 W → Below w.heap.size w W) := fun W hW => HW0.out.trans (hW.mono HW0.out.size)
  have HA1 : Hid (Calls Try.prog 19 #[.int .i64 (m0 : Int), .int .i64 (m1 : Int), .func (.func 20) #[] #[.pointer (some ⟨w.heap.size, 0, none⟩), .pointer (some ⟨w.heap.size + 1, 0, none⟩)]] W0 fun e w' => e = .returned (.int .i64 (frontN base target : Int)) ∧ Below W0.heap.size W0 w') := by
    have e : frontN base target = alikeN m0 m1 (eqF base target) := by unfold frontN; rw [HB.1, HP.1]
    rw [e]
    refine alike_1 m0 m1 (by omega) (by omega) _ _ (eqF base target) W0 fun j W j0 j1 hW => ?_
    obtain ⟨k0, k1⟩ := HCW.out W hW
    refine (front_any _ _ a0 m0 c0 base a1 m1 c1 target j W k0 k1 h0 h1 j0 j1 (by omega) (by omega) (HB0.out.below (HBW.out W hW)) (HB1.out.below (HBW.out W hW))).mono ?_
    rintro e w' ⟨rfl, rfl⟩
    exact ⟨rfl, hW.drew⟩
  have hfl : frontN base target ≤ m0 ∧ frontN base target ≤ m1 := by
    have := alikeN_le base.length target.length (eqF base target)
    rw [HB.1, HP.1] at this
    unfold frontN
    rw [HB.1, HP.1]
    exact this
  have HMK : Hid (makeHk base target = ⟨frontN base target, base.length - endN (base.drop (frontN base target)) (target.drop (frontN base target)), (target.drop (frontN base target)).take ((target.drop (frontN base target)).length - endN (base.drop (frontN base target)) (target.drop (frontN base target)))⟩) := rfl
  clear HB HP hn0 hn1
  generalize frontN base target = f at *
  obtain ⟨hf0, hf1⟩ := hfl
  have sl0 : ∀ W, (Instr.sliceAt 22 (.slice a0 m0 c0) (some (.int .i64 (f : Int))) none none).run Try.prog W = .ok (.slice (subA a0 c0 f) (m0 - f) (c0 - f)) W := fun W => slice_from a0 m0 c0 f hf0 h0 W
  have sl1 : ∀ W, (Instr.sliceAt 22 (.slice a1 m1 c1) (some (.int .i64 (f : Int))) none none).run Try.prog W = .ok (.slice (subA a1 c1 f) (m1 - f) (c1 - f)) W := fun W => slice_from a1 m1 c1 f hf1 h1 W
  go_enter Try.func13, Try.ntmps13
  obtain ⟨z0, z1⟩ := HCW.out W0 (Below.refl _ _)
  go_wp2_with fail
  refine HA1.out.mono ?_
  rintro e w1 ⟨rfl, hb1⟩
  have HB1' : Hid (Below W0.heap.size W0 w1) := hb1
  clear hb1 HA1 hW0 z0 z1
  obtain ⟨k0, k1⟩ := HCW.out w1 HB1'.out
  go_wp2_with fail
  have HK0 : Hid (w1.cell? ⟨w.heap.size, 0, none⟩ = some (.slice a0 m0 c0)) := k0
  have HK1 : Hid (w1.cell? ⟨w.heap.size + 1, 0, none⟩ = some (.slice a1 m1 c1)) := k1
  apply wp_two (R := fun x y W => W.cell? ⟨x, 0, none⟩ = some (.slice (subA a0 c0 f) (m0 - f) (c0 - f)) ∧ W.cell? ⟨y, 0, none⟩ = some (.slice (subA a1 c1 f) (m1 - f) (c1 - f)) ∧ w1.heap.size ≤ x ∧ w1.heap.size ≤ y ∧ x < W.heap.size ∧ y < W.heap.size ∧ Below w1.heap.size w1 W)
  · go_region_held3 (fun W => W.cell? ⟨w.heap.size, 0, none⟩ = some (.slice a0 m0 c0) ∧ W.cell? ⟨w.heap.size + 1, 0, none⟩ = some (.slice a1 m1 c1)) (first | go_keep | (exact ⟨k0, k1⟩) | assumption) (fail)
    all_goals
      have qa := two_new w1 (.slice (subA a0 c0 f) (m0 - f) (c0 - f)) (.slice (subA a1 c1 f) (m1 - f) (c1 - f)) 22
      have qb := two_new w1 (.slice (subA a1 c1 f) (m1 - f) (c1 - f)) (.slice (subA a0 c0 f) (m0 - f) (c0 - f)) 22
      obtain ⟨b1, hb1⟩ : ∃ b, b = w1.heap.size := ⟨_, rfl⟩
      obtain ⟨b2, hb2⟩ : ∃ b, b = w1.heap.size + 1 := ⟨_, rfl⟩
      rw [← hb2, ← hb1]
      rw [← hb2, ← hb1] at qa qb
      first
        | exact ⟨rfl, b1, b2, rfl, qa.1, qa.2.1, by omega, by omega, qa.2.2.1, qa.2.2.2.1, qa.2.2.2.2⟩
        | exact ⟨rfl, b2, b1, rfl, qb.2.1, qb.1, by omega, by omega, qb.2.2.2.1, qb.2.2.1, qb.2.2.2.2⟩
  rintro bo bm W2 ⟨r0, r1, r2, r3, r4, r5, r6⟩
  have HR0 : Hid (W2.cell? ⟨bo, 0, none⟩ = some (.slice (subA a0 c0 f) (m0 - f) (c0 - f))) := r0
  have HR1 : Hid (W2.cell? ⟨bm, 0, none⟩ = some (.slice (subA a1 c1 f) (m1 - f) (c1 - f))) := r1
  have HB2 : Hid (Below W0.heap.size W0 W2) := HB1'.out.trans (r6.mono HB1'.out.size)
  clear r0 r1 r2 r3 r6 k0 k1 sl0 sl1 HK0 HK1 HB1'
  have HOB : Hid (Bytes w (subA a0 c0 f) (m0 - f) (base.drop f)) := by
    have := HB0.out.part c0 f m0 hf0 (Nat.le_refl _) h0
    rw [List.take_of_length_le (by rw [List.length_drop, HB0.out.1]; exact Nat.le_refl _)] at this
    exact this
  have HMB : Hid (Bytes w (subA a1 c1 f) (m1 - f) (target.drop f)) := by
    have := HB1.out.part c1 f m1 hf1 (Nat.le_refl _) h1
    rw [List.take_of_length_le (by rw [List.length_drop, HB1.out.1]; exact Nat.le_refl _)] at this
    exact this
  have HMN : Hid (subA a1 c1 f = none → c1 - f = 0) := subA_nil HN1.out
  generalize subA a0 c0 f = oa at *
  generalize subA a1 c1 f = ma at *
  obtain ⟨om, hom⟩ : ∃ om, m0 - f = om := ⟨_, rfl⟩
  obtain ⟨mm, hmm⟩ : ∃ mm, m1 - f = mm := ⟨_, rfl⟩
  obtain ⟨oc, hoc⟩ : ∃ oc, c0 - f = oc := ⟨_, rfl⟩
  obtain ⟨mc, hmc⟩ : ∃ mc, c1 - f = mc := ⟨_, rfl⟩
  rw [hom] at HOB HR0
  rw [hoc] at HR0
  rw [hmm] at HMB HR1
  rw [hmc] at HR1 HMN
  have l1 : om ≤ oc := by omega
  have l2 : mm ≤ mc := by omega
  have HCX : Hid (∀ W, Below W2.heap.size W2 W → W.cell? ⟨bo, 0, none⟩ = some (.slice oa om oc) ∧ W.cell? ⟨bm, 0, none⟩ = some (.slice ma mm mc)) := fun W hW =>
    ⟨(hW.cell (p := ⟨_, _, none⟩) r4).trans HR0.out, (hW.cell (p := ⟨_, _, none⟩) r5).trans HR1.out⟩
  have HBX : Hid (∀ W, Below W2.heap.size W2 W → Below w.heap.size w W) := fun W hW => HBW.out W (HB2.out.trans (hW.mono HB2.out.size))
  have HA2 : Hid (Calls Try.prog 19 #[.int .i64 (om : Int), .int .i64 (mm : Int), .func (.func 21) #[] #[.pointer (some ⟨bo, 0, none⟩), .pointer (some ⟨bm, 0, none⟩)]] W2 fun e w' => e = .returned (.int .i64 (endN (base.drop f) (target.drop f) : Int)) ∧ Below W2.heap.size W2 w') := by
    have e : endN (base.drop f) (target.drop f) = alikeN om mm (eqB (base.drop f) (target.drop f)) := by unfold endN; rw [HOB.out.1, HMB.out.1]
    rw [e]
    refine alike_2 om mm (by omega) (by omega) _ _ (eqB (base.drop f) (target.drop f)) W2 fun j W j0 j1 hW => ?_
    obtain ⟨k0, k1⟩ := HCX.out W hW
    refine (back_any _ _ oa om oc (base.drop f) ma mm mc (target.drop f) j W k0 k1 l1 l2 j0 j1 (by omega) (by omega) (HOB.out.below (HBX.out W hW)) (HMB.out.below (HBX.out W hW))).mono ?_
    rintro e w' ⟨rfl, rfl⟩
    exact ⟨rfl, hW.drew⟩
  have hel : endN (base.drop f) (target.drop f) ≤ om ∧ endN (base.drop f) (target.drop f) ≤ mm := by
    have := alikeN_le (base.drop f).length (target.drop f).length (eqB (base.drop f) (target.drop f))
    rw [HOB.out.1, HMB.out.1] at this
    unfold endN
    rw [HOB.out.1, HMB.out.1]
    exact this
  have HMK2 : Hid (makeHk base target = ⟨f, m0 - endN (base.drop f) (target.drop f), (target.drop f).take (mm - endN (base.drop f) (target.drop f))⟩) := by
    have := HMK.out
    rw [HB0.out.1, HMB.out.1] at this
    exact this
  clear HMK
  generalize endN (base.drop f) (target.drop f) = e at *
  obtain ⟨he0, he1⟩ := hel
  obtain ⟨t, ht⟩ : ∃ t, m0 - e = t := ⟨_, rfl⟩
  obtain ⟨r, hr⟩ : ∃ r, mm - e = r := ⟨_, rfl⟩
  rw [ht, hr] at HMK2
  have HYB : Hid (Bytes w ma r ((target.drop f).take r)) := by
    have := HMB.out.first r
    rwa [show min mm r = r by omega] at this
  have HMO : Hid (makeOf base target = if f = t ∧ r = 0 then [] else hkBytes ⟨f, t, (target.drop f).take r⟩) := by
    show _ = _
    unfold makeOf
    rw [HMK2.out]
    simp only
    rw [HYB.out.1]
  generalize (target.drop f).take r = ys at *
  have q1 : IntKind.i64.wrap ((m0 : Int) - e) = (t : Int) := by rw [IntKind.wrap_i64]; omega
  have q2 : IntKind.i64.wrap ((mm : Int) - e) = (r : Int) := by rw [IntKind.wrap_i64]; omega
  have hrm : r ≤ mm := by omega
  have htm : t ≤ m0 := by omega
  have sl3 : ∀ W, (Instr.sliceAt 22 (.slice ma mm mc) none (some (.int .i64 (r : Int))) none).run Try.prog W = .ok (.slice ma r mc) W := fun W => slice_to ma mm mc r (by omega) W
  clear HMK2 HOB HMB HR0 HR1
  obtain ⟨k2, k3⟩ := HCX.out W2 (Below.refl _ _)
  go_wp2_with fail
  refine HA2.out.mono ?_
  rintro e' w3 ⟨rfl, hb3⟩
  have HB3 : Hid (Below W2.heap.size W2 w3) := hb3
  have HW3 : Hid (Below w.heap.size w w3) := HBX.out w3 hb3
  clear k2 k3 HA2
  obtain ⟨k2, k3⟩ := HCX.out w3 hb3
  obtain ⟨k0, k1⟩ := HCW.out w3 (HB2.out.trans (hb3.mono HB2.out.size))
  have n0 := World.new_ne w3 ⟨w.heap.size, 0, none⟩ k0
  have n3 := World.new_ne w3 ⟨bm, 0, none⟩ k3
  clear hb3
  go_wp2_with fail
  apply wp_one
  · go_region_held3 (fun W => W.cell? ⟨w.heap.size, 0, none⟩ = some (.slice a0 m0 c0) ∧ W.cell? ⟨bm, 0, none⟩ = some (.slice ma mm mc)) (first | go_keep | (exact ⟨k0, k3⟩) | assumption) (fail)
    all_goals exact ⟨rfl, rfl, rfl⟩
  have hnb := heap_alloc_new w3 (.cells #[.int .i64 (f : Int), .int .i64 (t : Int), .slice ma r mc] 48)
  have d0 : (w3.alloc (.cells #[.int .i64 (f : Int), .int .i64 (t : Int), .slice ma r mc] 48)).drew.cell? ⟨w3.heap.size, 0, none⟩ = some (.int .i64 (f : Int)) := (cell_of_row (w3.alloc (.cells #[.int .i64 (f : Int), .int .i64 (t : Int), .slice ma r mc] 48)) _ 0 _ _ hnb).trans rfl
  have d1 : (w3.alloc (.cells #[.int .i64 (f : Int), .int .i64 (t : Int), .slice ma r mc] 48)).drew.cell? ⟨w3.heap.size, 1, none⟩ = some (.int .i64 (t : Int)) := (cell_of_row (w3.alloc (.cells #[.int .i64 (f : Int), .int .i64 (t : Int), .slice ma r mc] 48)) _ 1 _ _ hnb).trans rfl
  have d2 : (w3.alloc (.cells #[.int .i64 (f : Int), .int .i64 (t : Int), .slice ma r mc] 48)).drew.cell? ⟨w3.heap.size, 2, none⟩ = some (.slice ma r mc) := (cell_of_row (w3.alloc (.cells #[.int .i64 (f : Int), .int .i64 (t : Int), .slice ma r mc] 48)) _ 2 _ _ hnb).trans rfl
  have HB4 : Hid (Below w.heap.size w (w3.alloc (.cells #[.int .i64 (f : Int), .int .i64 (t : Int), .slice ma r mc] 48)).drew) := (HW3.out.alloc HW3.out.size _).drew
  clear hnb k0 k1 k2 k3 n0 n3 sl3 q1 q2
  generalize (w3.alloc (.cells #[.int .i64 (f : Int), .int .i64 (t : Int), .slice ma r mc] 48)).drew = W4 at *
  generalize w3.heap.size = bh at *
  have hrc : r ≤ mc := by omega
  have HYB4 : Hid (Bytes W4 ma r ys) := HYB.out.below HB4.out
  clear hr ht
  by_cases hft : f = t
  · subst hft
    by_cases hr0 : r = 0
    · subst hr0
      have HMO' : Hid (makeOf base target = []) := by have := HMO.out; rwa [if_pos ⟨rfl, rfl⟩] at this
      go_wp2_with fail
      go_ret
      rw [HMO'.out]
      exact ⟨⟨none, 0, 0, rfl, ⟨rfl, .inl ⟨rfl, rfl⟩⟩⟩, HB4.out⟩
    · have j2 : ¬ (r : Int) = 0 := by omega
      have HMO' : Hid (makeOf base target = hkBytes ⟨f, f, ys⟩) := by have := HMO.out; rwa [if_neg (by omega)] at this
      go_wp2_with fail
      refine (printed_any f f ma r mc ys W4 (by omega) (by omega) (by omega) hrc HMN.out HYB4.out).mono ?_
      rintro e5 w5 ⟨⟨pa, pn, pc, rfl, ho⟩, hb⟩
      have HO5 : Hid (Own w5 w.heap.size (.slice pa pn pc) pn (hkBytes ⟨f, f, ys⟩)) := ho.lower HB4.out.size
      have HB5 : Hid (Below w.heap.size w w5) := HB4.out.trans (hb.mono HB4.out.size)
      clear ho hb
      go_wp2_with fail
      go_ret
      rw [HMO'.out]
      exact ⟨⟨pa, pn, pc, rfl, HO5.out⟩, HB5.out⟩
  · have j1 : ¬ (f : Int) = (t : Int) := by omega
    have HMO' : Hid (makeOf base target = hkBytes ⟨f, t, ys⟩) := by have := HMO.out; rwa [if_neg (by omega)] at this
    go_wp2_with fail
    refine (printed_any f t ma r mc ys W4 (by omega) (by omega) (by omega) hrc HMN.out HYB4.out).mono ?_
    rintro e5 w5 ⟨⟨pa, pn, pc, rfl, ho⟩, hb⟩
    have HO5 : Hid (Own w5 w.heap.size (.slice pa pn pc) pn (hkBytes ⟨f, t, ys⟩)) := ho.lower HB4.out.size
    have HB5 : Hid (Below w.heap.size w w5) := HB4.out.trans (hb.mono HB4.out.size)
    clear ho hb
    go_wp2_with fail
    go_ret
    rw [HMO'.out]
    exact ⟨⟨pa, pn, pc, rfl, HO5.out⟩, HB5.out⟩
end Go.Proofs.Ytbkifjmfmiipnaa
