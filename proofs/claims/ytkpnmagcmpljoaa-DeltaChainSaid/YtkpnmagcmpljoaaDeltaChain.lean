/- The program's statement DeltaChain holds: for every input it returns true and leaves its arguments as they were. No further condition. -/
import Derived.Test.YtkpnmagcmpljoaaRows
import Derived.WalkKit
import Derived.ProofKit
import Derived.OpenShut
import Derived.ShutString
import Derived.ChangeOld
import Derived.Below
import Derived.StillTailTactics
import Derived.Deep.RegionHeld3
import Derived.Deep.AppendLies
import Derived.StillTactics
import Derived.Deep.RegionWith
import Derived.WalkSpells
import Derived.Outline
import Derived.Test.YtkpnmagcmpljoaaRowB
namespace Go.Proofs.Ytkpnmagcmpljoaa.deltaChain
open Go.ChangeShapes Go.WideShapes Go.ChangeAt Go.RowKit
open Go.ChangeMaps (open_string shut_string)
set_option linter.unusedVariables false

theorem own : ownKnob Try.prog.godebug = none := by kernel_rfl
theorem laidOut : laidOutB Try.prog = true := by kernel_rfl

/-- A slice of integers that came in: nil, or a row of cells. -/
def IsRow (k : IntKind) (w : World) (a : Option Addr) (len cap : Nat) (zs : List Int) : Prop :=
  (a = none ∧ len = 0 ∧ cap = 0 ∧ zs = []) ∨
  ∃ x, a = some x ∧ len ≤ cap ∧ cap ≤ maxLen ∧ zs.length = cap ∧ (∀ i, i < zs.length → w.cell? (x.add i) = some (.int k (zs.getD i 0))) ∧ ∀ n ∈ zs, (Lit.int k n).wf = true
open Plain
/-! ### The walk -/
set_option maxRecDepth 100000 in
set_option maxHeartbeats 16000000 in
theorem walk (a0 : Option Addr) (len0 cap0 : Nat) (z0 : List Int) (a1 : Option Addr) (len1 cap1 : Nat) (z1 : List Int) (a2 : Option Addr) (len2 cap2 : Nat) (z2 : List Int) (w : World) (w0 : IsRow .u8 w a0 len0 cap0 z0) (w1 : IsRow .u8 w a1 len1 cap1 z1) (w2 : IsRow .u8 w a2 len2 cap2 z2) :
    Calls Try.prog 7 #[.slice a0 len0 cap0, .slice a1 len1 cap1, .slice a2 len2 cap2] w fun e w' => e = .returned (.bool true) ∧ Below w.heap.size w w' := by
  obtain ⟨hr0, hlc0, hcm0⟩ := row_in w0 1000
  obtain ⟨hr1, hlc1, hcm1⟩ := row_in w1 1000
  obtain ⟨hr2, hlc2, hcm2⟩ := row_in w2 1000
  have R0 := Lib.hid hr0
  have R1 := Lib.hid hr1
  have R2 := Lib.hid hr2
  clear w0 w1 w2 hr0 hr1 hr2
  generalize (z0.take len0).take 1000 = x0 at *
  generalize (z1.take len1).take 1000 = x1 at *
  generalize (z2.take len2).take 1000 = x2 at *
  have HF0 : Hid (∀ W, Calls Try.prog 8 #[.slice a0 len0 cap0] W fun e w' => e = .returned (.slice a0 (min len0 1000) cap0) ∧ w' = W) := fun W => few_any a0 len0 cap0 W hlc0 hcm0
  have HF1 : Hid (∀ W, Calls Try.prog 8 #[.slice a1 len1 cap1] W fun e w' => e = .returned (.slice a1 (min len1 1000) cap1) ∧ w' = W) := fun W => few_any a1 len1 cap1 W hlc1 hcm1
  have HF2 : Hid (∀ W, Calls Try.prog 8 #[.slice a2 len2 cap2] W fun e w' => e = .returned (.slice a2 (min len2 1000) cap2) ∧ w' = W) := fun W => few_any a2 len2 cap2 W hlc2 hcm2
  obtain ⟨m0, hm0⟩ : ∃ m, min len0 1000 = m := ⟨_, rfl⟩
  obtain ⟨m1, hm1⟩ : ∃ m, min len1 1000 = m := ⟨_, rfl⟩
  obtain ⟨m2, hm2⟩ : ∃ m, min len2 1000 = m := ⟨_, rfl⟩
  have k0 : m0 ≤ 1000 := by omega
  have k1 : m1 ≤ 1000 := by omega
  have k2 : m2 ≤ 1000 := by omega
  rw [hm0] at R0 HF0
  rw [hm1] at R1 HF1
  rw [hm2] at R2 HF2
  clear hm0 hm1 hm2
  go_enter Try.func7, Try.ntmps7
  go_wp2_with fail
  refine (HF0.out w).mono ?_
  rintro e wq ⟨rfl, hwq⟩
  have hwq2 := hwq.symm
  subst hwq2
  clear hwq
  go_wp2_with fail
  refine (HF1.out w).mono ?_
  rintro e wq ⟨rfl, hwq⟩
  have hwq2 := hwq.symm
  subst hwq2
  clear hwq
  go_wp2_with fail
  refine (HF2.out w).mono ?_
  rintro e wq ⟨rfl, hwq⟩
  have hwq2 := hwq.symm
  subst hwq2
  clear hwq HF0 HF1 HF2
  go_wp2_with fail
  refine (make_row a0 m0 cap0 x0 (by omega) a1 m1 cap1 x1 (by omega) w R0.out R1.out).mono ?_
  rintro e v1 ⟨⟨da, dk, dc, D, S, rfl, hd, hmade, hdk⟩, hb⟩
  have HM := Lib.hid hmade
  have HD := Lib.hid hd
  have HW1 : Hid (Below w.heap.size w v1) := hb
  have hdk5 : dk ≤ 1100 := by omega
  clear hmade hd hb hdk
  go_wp2_with fail
  refine (apply_row a0 m0 cap0 x0 (by omega) da dk dc D (by omega) (m1 : Int) (by omega) 0 x1 m1 v1 (R0.out.below HW1.out) HD.out (made_apply HM.out (by rw [R0.out.len]; omega) (by rw [R1.out.len]; omega) _ (by rw [R1.out.len]; exact Int.le_refl _)) R1.out.len R1.out.range).mono ?_
  rintro e v2 ⟨⟨xa, xc, rfl, hx⟩, hb⟩
  have HX := Lib.hid hx
  have HW2 : Hid (Below w.heap.size w v2) := HW1.out.trans (hb.mono HW1.out.size)
  clear hx hb HM HD
  go_wp2_with fail
  refine (make_row a1 m1 cap1 x1 (by omega) a2 m2 cap2 x2 (by omega) v2 (R1.out.below HW2.out) (R2.out.below HW2.out)).mono ?_
  rintro e v3 ⟨⟨da2, dk2, dc2, D2, S2, rfl, hd, hmade, hdk⟩, hb⟩
  have HM := Lib.hid hmade
  have HD := Lib.hid hd
  have HX3 := Lib.hid (HX.out.below hb)
  have HW3 : Hid (Below w.heap.size w v3) := HW2.out.trans (hb.mono HW2.out.size)
  have hdk52 : dk2 ≤ 1100 := by omega
  clear hmade hd hb hdk HX
  go_wp2_with fail
  refine (apply_row xa m1 xc x1 (by omega) da2 dk2 dc2 D2 (by omega) (m2 : Int) (by omega) 0 x2 m2 v3 HX3.out HD.out (made_apply HM.out (by rw [R1.out.len]; omega) (by rw [R2.out.len]; omega) _ (by rw [R2.out.len]; exact Int.le_refl _)) R2.out.len R2.out.range).mono ?_
  rintro e v4 ⟨⟨ya, yc, rfl, hy⟩, hb⟩
  have HY := Lib.hid hy
  have HW4 : Hid (Below w.heap.size w v4) := HW3.out.trans (hb.mono HW3.out.size)
  clear hy hb HM HD HX3
  go_wp2_with fail
  refine (make_row a2 m2 cap2 x2 (by omega) a0 m0 cap0 x0 (by omega) v4 (R2.out.below HW4.out) (R0.out.below HW4.out)).mono ?_
  rintro e v5 ⟨⟨da3, dk3, dc3, D3, S3, rfl, hd, hmade, hdk⟩, hb⟩
  have HM := Lib.hid hmade
  have HD := Lib.hid hd
  have HY5 := Lib.hid (HY.out.below hb)
  have HW5 : Hid (Below w.heap.size w v5) := HW4.out.trans (hb.mono HW4.out.size)
  have hdk53 : dk3 ≤ 1100 := by omega
  clear hmade hd hb hdk HY
  go_wp2_with fail
  refine (apply_row ya m2 yc x2 (by omega) da3 dk3 dc3 D3 (by omega) (m0 : Int) (by omega) 0 x0 m0 v5 HY5.out HD.out (made_apply HM.out (by rw [R2.out.len]; omega) (by rw [R0.out.len]; omega) _ (by rw [R0.out.len]; exact Int.le_refl _)) R0.out.len R0.out.range).mono ?_
  rintro e v6 ⟨⟨za, zc, rfl, hz⟩, hb⟩
  have HZ := Lib.hid hz
  have HY6 := Lib.hid (HY5.out.below hb)
  have HW6 : Hid (Below w.heap.size w v6) := HW5.out.trans (hb.mono HW5.out.size)
  clear hz hb HM HD HY5
  go_wp2_with fail
  refine (known_any v6).mono ?_
  rintro e v7 ⟨rfl, hb7⟩
  have HW7 : Hid (Below w.heap.size w v7) := HW6.out.trans (hb7.mono HW6.out.size)
  have t1 := text_run v7 ya m2 yc x2 (HY6.out.below hb7).bytes
  have t2 := text_run v7 a2 m2 cap2 x2 (R2.out.below HW7.out).bytes
  have t3 := text_run v7 za m0 zc x0 (HZ.out.below hb7).bytes
  have t4 := text_run v7 a0 m0 cap0 x0 (R0.out.below HW7.out).bytes
  clear hb7
  generalize strOfNums x0 = T0 at *
  generalize strOfNums x2 = T2 at *
  go_wp2_with fail
  go_ret
  exact ⟨rfl, HW7.out⟩

/-! ### The row's step -/
set_option maxRecDepth 100000 in
theorem lifted (os : Os) (started : os.Started) (H : Type) (enc : TypeId × Value → H) :
    ReturnsInHanded {} Try.checked os 7 .any (Rows.deltaChainSpec.pre6 enc Try.prog Try.f7 Rows.deltaChainRow.domain false) (Rows.deltaChainSpec.post enc Try.prog Try.f7 false true false false) := by
  refine returnsInHanded_of_change (C := Try.checked) own started (by kernel_rfl) Try.func7
    (ChangeSpec.witness6 (enc := enc) (C := Try.checked) false ⟨#[], #[.slice none 0 0, .slice none 0 0, .slice none 0 0], []⟩ 8 (by kernel_rfl) (by kernel_rfl) (by kernel_rfl) (by kernel_rfl)) ?_
  intro W base args ds gs before hval0 hW hcnd _
  have hval : ∀ (j : Nat) t v, Try.f7.params[j]? = some t → args[j]? = some v → Value.okWide Try.prog W .any base t v := hval0
  have hW' := hW
  obtain ⟨p, q, hA0, hV, rfl, hfz, hnd⟩ := hW
  have hA : DataW.TrodAll enc Try.prog W 0 (fun _ => true) true Try.f7.params.toList args.toList ds p := hA0
  rw [Try.params7] at hA hval
  obtain ⟨v0, vs0, d0, ds0, p0, q0, hargs, rfl, rfl, h0, r0⟩ := trodAll_cons hA
  obtain ⟨v1, vs1, d1, ds1, p1, q1, rfl, rfl, rfl, h1, r1⟩ := trodAll_cons r0
  obtain ⟨v2, vs2, d2, ds2, p2, q2, rfl, rfl, rfl, h2, r2⟩ := trodAll_cons r1
  obtain ⟨rfl, rfl, rfl⟩ := trodAll_nil r2
  obtain rfl : args = #[v0, v1, v2] := by cases args; simp_all
  obtain ⟨rfl, rfl⟩ := trodVars_none hV
  obtain ⟨a0, len0, cap0, rfl⟩ := okWide_slice Try.underlying22 (hval 0 22 v0 rfl rfl)
  have k0 := h0
  have lt0 : ∀ x ∈ p0, x.block < W.heap.size := by obtain ⟨m, hm⟩ := k0; exact DataW.trod_lt m _ _ _ hm
  obtain ⟨z0, w0⟩ : ∃ zs, IsRow .u8 W a0 len0 cap0 zs := by
    obtain ⟨fuel, hf⟩ := h0
    rcases open_ints Try.underlying22 Try.underlying5 (by kernel_rfl) hf with ⟨hcs, _⟩ | ⟨x, l, c, zs, hcs, _, hl, hm, hz, _, hcell, hwz⟩
    · simp [Value.cells] at hcs
      obtain ⟨rfl, rfl, rfl⟩ := hcs
      exact ⟨[], .inl ⟨rfl, rfl, rfl, rfl⟩⟩
    · simp [Value.cells] at hcs
      obtain ⟨rfl, rfl, rfl⟩ := hcs
      exact ⟨zs, .inr ⟨_, rfl, hl, hm, by simpa using hz, hcell, hwz⟩⟩
  obtain ⟨a1, len1, cap1, rfl⟩ := okWide_slice Try.underlying22 (hval 1 22 v1 rfl rfl)
  have k1 := h1
  have lt1 : ∀ x ∈ p1, x.block < W.heap.size := by obtain ⟨m, hm⟩ := k1; exact DataW.trod_lt m _ _ _ hm
  obtain ⟨z1, w1⟩ : ∃ zs, IsRow .u8 W a1 len1 cap1 zs := by
    obtain ⟨fuel, hf⟩ := h1
    rcases open_ints Try.underlying22 Try.underlying5 (by kernel_rfl) hf with ⟨hcs, _⟩ | ⟨x, l, c, zs, hcs, _, hl, hm, hz, _, hcell, hwz⟩
    · simp [Value.cells] at hcs
      obtain ⟨rfl, rfl, rfl⟩ := hcs
      exact ⟨[], .inl ⟨rfl, rfl, rfl, rfl⟩⟩
    · simp [Value.cells] at hcs
      obtain ⟨rfl, rfl, rfl⟩ := hcs
      exact ⟨zs, .inr ⟨_, rfl, hl, hm, by simpa using hz, hcell, hwz⟩⟩
  obtain ⟨a2, len2, cap2, rfl⟩ := okWide_slice Try.underlying22 (hval 2 22 v2 rfl rfl)
  have k2 := h2
  have lt2 : ∀ x ∈ p2, x.block < W.heap.size := by obtain ⟨m, hm⟩ := k2; exact DataW.trod_lt m _ _ _ hm
  obtain ⟨z2, w2⟩ : ∃ zs, IsRow .u8 W a2 len2 cap2 zs := by
    obtain ⟨fuel, hf⟩ := h2
    rcases open_ints Try.underlying22 Try.underlying5 (by kernel_rfl) hf with ⟨hcs, _⟩ | ⟨x, l, c, zs, hcs, _, hl, hm, hz, _, hcell, hwz⟩
    · simp [Value.cells] at hcs
      obtain ⟨rfl, rfl, rfl⟩ := hcs
      exact ⟨[], .inl ⟨rfl, rfl, rfl, rfl⟩⟩
    · simp [Value.cells] at hcs
      obtain ⟨rfl, rfl, rfl⟩ := hcs
      exact ⟨zs, .inr ⟨_, rfl, hl, hm, by simpa using hz, hcell, hwz⟩⟩
  refine (walk a0 len0 cap0 z0 a1 len1 cap1 z1 a2 len2 cap2 z2 W w0 w1 w2).mono fun e W' ⟨he, bel⟩ => ?_
  subst he
  exact ⟨_, rfl, _, _, _, [], _, [], hW', trodAll_mk1 (shut_bool Try.underlying4 _), (trodAll_cons_mk (Below.trod laidOut (by kernel_rfl) (of_decide_eq_true (by kernel_rfl)) k0 bel lt0) (trodAll_cons_mk (Below.trod laidOut (by kernel_rfl) (of_decide_eq_true (by kernel_rfl)) k1 bel lt1) (trodAll_cons_mk (Below.trod laidOut (by kernel_rfl) (of_decide_eq_true (by kernel_rfl)) k2 bel lt2) trodAll_mk0))), rfl, bel.frame _, fun h => by cases h⟩

theorem over : Rows.deltaChainRow.holds Try.pinned (OpenSpec.ofChange Rows.deltaChainSpec) :=
  OpenClaim.holds_of_wide 7 Try.f7 rfl rfl rfl rfl rfl rfl rfl ⟨rfl, rfl, rfl, rfl, rfl⟩ rfl rfl rfl rfl rfl (by kernel_rfl) Try.func7 (by kernel_rfl)
    (of_decide_eq_true (by kernel_rfl)) (by unfold Func.isWrapper; first | (rw [if_pos (by decide +kernel)]; kernel_rfl) | (rw [if_neg (by decide +kernel)]; exact ⟨rfl, rfl⟩))
    (fun os started H enc _ => lifted os started H enc)

/-- The statement. -/
theorem proved : Rows.DeltaChainSaid := over
#print axioms proved
end Go.Proofs.Ytkpnmagcmpljoaa.deltaChain
