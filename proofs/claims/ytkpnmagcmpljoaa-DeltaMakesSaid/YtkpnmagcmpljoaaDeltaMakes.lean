/- The program's statement DeltaMakes holds: for every input it returns true and leaves its arguments as they were. No further condition. -/
import Derived.Test.YtkpnmagcmpljoaaRows
import Derived.WalkKit
import Derived.ProofKit
import Derived.OpenShut
import Derived.ShutString
import Derived.ChangeOld
import Derived.Below
import Derived.StillTailTactics
import Derived.Deep.RegionHeld3
import Derived.Deep.AppendLies
import Derived.StillTactics
import Derived.Deep.RegionWith
import Derived.WalkSpells
import Derived.Outline
import Derived.Test.YtkpnmagcmpljoaaMake
import Derived.Test.YtkpnmagcmpljoaaRefApply
import Derived.Test.YtkpnmagcmpljoaaKnown
import Derived.Test.YtkpnmagcmpljoaaRange
namespace Go.Proofs.Ytkpnmagcmpljoaa.deltaMakes
open Go.ChangeShapes Go.WideShapes Go.ChangeAt Go.RowKit
open Go.ChangeMaps (open_string shut_string)
set_option linter.unusedVariables false

theorem own : ownKnob Try.prog.godebug = none := by kernel_rfl
theorem laidOut : laidOutB Try.prog = true := by kernel_rfl

/-- A slice of integers that came in: nil, or a row of cells. -/
def IsRow (k : IntKind) (w : World) (a : Option Addr) (len cap : Nat) (zs : List Int) : Prop :=
  (a = none ∧ len = 0 ∧ cap = 0 ∧ zs = []) ∨
  ∃ x, a = some x ∧ len ≤ cap ∧ cap ≤ maxLen ∧ zs.length = cap ∧ (∀ i, i < zs.length → w.cell? (x.add i) = some (.int k (zs.getD i 0))) ∧ ∀ n ∈ zs, (Lit.int k n).wf = true
open Plain
theorem nil_row {k : IntKind} {w : World} {a : Option Addr} {len cap : Nat} {zs : List Int} (h : IsRow k w a len cap zs) : a = none → cap = 0 := by
  rcases h with ⟨-, -, h, -⟩ | ⟨x, rfl, -⟩
  · exact fun _ => h
  · exact fun e => by cases e
/-! ### The walk -/
set_option maxRecDepth 100000 in
set_option maxHeartbeats 16000000 in
theorem walk (a0 : Option Addr) (len0 cap0 : Nat) (z0 : List Int) (a1 : Option Addr) (len1 cap1 : Nat) (z1 : List Int) (w : World) (w0 : IsRow .u8 w a0 len0 cap0 z0) (w1 : IsRow .u8 w a1 len1 cap1 z1) :
    Calls Try.prog 4 #[.slice a0 len0 cap0, .slice a1 len1 cap1] w fun e w' => e = .returned (.bool true) ∧ Below w.heap.size w w' := by
  have HN0 : Hid (a0 = none → cap0 = 0) := nil_row w0
  have HN1 : Hid (a1 = none → cap1 = 0) := nil_row w1
  obtain ⟨hb0, hlc0, hcm0⟩ := bytes_of w0
  obtain ⟨hb1, hlc1, hcm1⟩ := bytes_of w1
  have HB0 : Hid (Bytes w a0 (min len0 1000) ((z0.take len0).take 1000)) := hb0.first 1000
  have HB1 : Hid (Bytes w a1 (min len1 1000) ((z1.take len1).take 1000)) := hb1.first 1000
  clear w0 w1 hb0 hb1
  generalize (z0.take len0).take 1000 = bas at *
  generalize (z1.take len1).take 1000 = tar at *
  obtain ⟨m, hm⟩ : ∃ m, min len0 1000 = m := ⟨_, rfl⟩
  obtain ⟨q, hq⟩ : ∃ q, min len1 1000 = q := ⟨_, rfl⟩
  have hm5 : m ≤ 1000 := by omega
  have hmc : m ≤ cap0 := by omega
  have hq5 : q ≤ 1000 := by omega
  have hqc : q ≤ cap1 := by omega
  rw [hm] at HB0
  rw [hq] at HB1
  have HF : Hid (∀ W, Calls Try.prog 8 #[.slice a0 len0 cap0] W fun e w' => e = .returned (.slice a0 m cap0) ∧ w' = W) := fun W => by
    rw [← hm]; exact few_any a0 len0 cap0 W hlc0 hcm0
  have HG : Hid (∀ W, Calls Try.prog 8 #[.slice a1 len1 cap1] W fun e w' => e = .returned (.slice a1 q cap1) ∧ w' = W) := fun W => by
    rw [← hq]; exact few_any a1 len1 cap1 W hlc1 hcm1
  clear hm hq
  have HL0 : Hid (bas.length = m) := HB0.out.1
  have HL1 : Hid (tar.length = q) := HB1.out.1
  go_enter Try.func4, Try.ntmps4
  go_wp2_with fail
  refine (HF.out w).mono ?_
  rintro e wq ⟨rfl, hwq⟩
  have hwq2 := hwq.symm
  subst hwq2
  clear hwq
  go_wp2_with fail
  refine (HG.out w).mono ?_
  rintro e wq ⟨rfl, hwq⟩
  have hwq2 := hwq.symm
  subst hwq2
  clear hwq HF HG
  go_wp2_with fail
  refine (make_any a0 m cap0 bas hmc hcm0 (by omega) a1 q cap1 tar hqc hcm1 (by omega) w HB0.out HB1.out).mono ?_
  rintro e w1 ⟨⟨v1, D, S, rfl, hv1, hmade, hrange⟩, hb1⟩
  have HMA := Lib.hid hmade
  have hDl := made_len hmade
  rw [HL1.out] at hDl
  obtain ⟨k, hk⟩ : ∃ k, D.length = k := ⟨_, rfl⟩
  rw [hk] at hv1 hDl
  obtain ⟨va1, vc1, rfl, hvc1, hvn1, -⟩ := hv1.shape
  have HVN := Lib.hid hvn1
  have HD1 : Hid (Bytes w1 va1 k D) := hv1.bytes (range_of_mem0 hrange)
  have HW1 : Hid (Below w.heap.size w w1) := hb1
  have hap := made_apply hmade (by rw [HL0.out]; omega) (by rw [HL1.out]; omega) (q : Int) (by rw [HL1.out]; exact Int.le_refl _)
  obtain ⟨ks, hsz⟩ := made_sizes hmade (by rw [HL0.out]; omega) (by rw [HL1.out]; omega)
  rw [HL0.out, HL1.out] at hsz
  have HAP := Lib.hid hap
  have HSZ := Lib.hid hsz
  have HTR : Hid (∀ j : Nat, 0 ≤ tar[j]?.getD 0 ∧ tar[j]?.getD 0 ≤ 255) := HB1.out.2.2.1
  have hk5 : k ≤ 1100 := by omega
  have hki : (k : Int) ≤ 30 + (q : Int) + (q : Int) / 100 := by omega
  clear hmade hv1 hvn1 hrange hb1 hap hsz hk
  go_wp2_with fail
  refine (apply_any a0 m cap0 bas va1 k vc1 D (q : Int) w1 hmc HN0.out (by omega) (HB0.out.below HW1.out) hvc1 HVN.out (by omega) HD1.out (by omega)).mono ?_
  rw [HAP.out]
  rintro e w2 ⟨⟨v2, rfl, hv2⟩, hb2⟩
  dsimp only at hv2 ⊢
  rw [HL1.out] at hv2
  obtain ⟨va2, vc2, rfl, -, -, -⟩ := hv2.shape
  have HW2 : Hid (Below w.heap.size w w2) := HW1.out.trans (hb2.mono HW1.out.size)
  have HD2 : Hid (Bytes w2 va1 k D) := HD1.out.below hb2
  have HA2 : Hid (Bytes w2 va2 q tar) := hv2.bytes HTR.out
  clear hv2 hb2
  go_wp2_with fail
  refine (ref_apply a0 m cap0 bas va1 k vc1 D (q : Int) w2 hmc HN0.out (by omega) (HB0.out.below HW2.out) hvc1 HVN.out (by omega) HD2.out (by omega)).mono ?_
  rw [HAP.out]
  rintro e w3 ⟨⟨v3, rfl, hv3⟩, hb3⟩
  dsimp only at hv3 ⊢
  rw [HL1.out] at hv3
  obtain ⟨va3, vc3, rfl, -, -, -⟩ := hv3.shape
  have HW3 : Hid (Below w.heap.size w w3) := HW2.out.trans (hb3.mono HW2.out.size)
  have HD3 : Hid (Bytes w3 va1 k D) := HD2.out.below hb3
  have HA3 : Hid (Bytes w3 va2 q tar) := HA2.out.below hb3
  have HC3 : Hid (Bytes w3 va3 q tar) := hv3.bytes HTR.out
  clear hv3 hb3
  go_wp2_with fail
  refine (sizes_any va1 k vc1 D w3 hvc1 HD3.out).mono ?_
  rw [HSZ.out]
  rintro e w4 ⟨rfl, hb4⟩
  dsimp only
  have HW4 : Hid (Below w.heap.size w w4) := HW3.out.trans (hb4.mono HW3.out.size)
  have HA4 : Hid (Bytes w4 va2 q tar) := HA3.out.below hb4
  have HC4 : Hid (Bytes w4 va3 q tar) := HC3.out.below hb4
  clear hb4
  go_wp2_with fail
  refine (known_any w4).mono ?_
  rintro e w6 ⟨rfl, hb6⟩
  have HW6 : Hid (Below w.heap.size w w6) := HW4.out.trans (hb6.mono HW4.out.size)
  have t2 := text_run w6 a1 q cap1 tar (HB1.out.below HW6.out)
  have t3 := text_run w6 va2 q vc2 tar (HA4.out.below hb6)
  have t4 := text_run w6 va3 q vc3 tar (HC4.out.below hb6)
  clear hb6
  generalize strOfNums tar = S2 at *
  go_wp2_with fail
  go_ret
  exact ⟨rfl, HW6.out⟩

/-! ### The row's step -/
set_option maxRecDepth 100000 in
theorem lifted (os : Os) (started : os.Started) (H : Type) (enc : TypeId × Value → H) :
    ReturnsInHanded {} Try.checked os 4 .any (Rows.deltaMakesSpec.pre6 enc Try.prog Try.f4 Rows.deltaMakesRow.domain false) (Rows.deltaMakesSpec.post enc Try.prog Try.f4 false true false false) := by
  refine returnsInHanded_of_change (C := Try.checked) own started (by kernel_rfl) Try.func4
    (ChangeSpec.witness6 (enc := enc) (C := Try.checked) false ⟨#[], #[.slice none 0 0, .slice none 0 0], []⟩ 8 (by kernel_rfl) (by kernel_rfl) (by kernel_rfl) (by kernel_rfl)) ?_
  intro W base args ds gs before hval0 hW hcnd _
  have hval : ∀ (j : Nat) t v, Try.f4.params[j]? = some t → args[j]? = some v → Value.okWide Try.prog W .any base t v := hval0
  have hW' := hW
  obtain ⟨p, q, hA0, hV, rfl, hfz, hnd⟩ := hW
  have hA : DataW.TrodAll enc Try.prog W 0 (fun _ => true) true Try.f4.params.toList args.toList ds p := hA0
  rw [Try.params4] at hA hval
  obtain ⟨v0, vs0, d0, ds0, p0, q0, hargs, rfl, rfl, h0, r0⟩ := trodAll_cons hA
  obtain ⟨v1, vs1, d1, ds1, p1, q1, rfl, rfl, rfl, h1, r1⟩ := trodAll_cons r0
  obtain ⟨rfl, rfl, rfl⟩ := trodAll_nil r1
  obtain rfl : args = #[v0, v1] := by cases args; simp_all
  obtain ⟨rfl, rfl⟩ := trodVars_none hV
  obtain ⟨a0, len0, cap0, rfl⟩ := okWide_slice Try.underlying22 (hval 0 22 v0 rfl rfl)
  have k0 := h0
  have lt0 : ∀ x ∈ p0, x.block < W.heap.size := by obtain ⟨m, hm⟩ := k0; exact DataW.trod_lt m _ _ _ hm
  obtain ⟨z0, w0⟩ : ∃ zs, IsRow .u8 W a0 len0 cap0 zs := by
    obtain ⟨fuel, hf⟩ := h0
    rcases open_ints Try.underlying22 Try.underlying5 (by kernel_rfl) hf with ⟨hcs, _⟩ | ⟨x, l, c, zs, hcs, _, hl, hm, hz, _, hcell, hwz⟩
    · simp [Value.cells] at hcs
      obtain ⟨rfl, rfl, rfl⟩ := hcs
      exact ⟨[], .inl ⟨rfl, rfl, rfl, rfl⟩⟩
    · simp [Value.cells] at hcs
      obtain ⟨rfl, rfl, rfl⟩ := hcs
      exact ⟨zs, .inr ⟨_, rfl, hl, hm, by simpa using hz, hcell, hwz⟩⟩
  obtain ⟨a1, len1, cap1, rfl⟩ := okWide_slice Try.underlying22 (hval 1 22 v1 rfl rfl)
  have k1 := h1
  have lt1 : ∀ x ∈ p1, x.block < W.heap.size := by obtain ⟨m, hm⟩ := k1; exact DataW.trod_lt m _ _ _ hm
  obtain ⟨z1, w1⟩ : ∃ zs, IsRow .u8 W a1 len1 cap1 zs := by
    obtain ⟨fuel, hf⟩ := h1
    rcases open_ints Try.underlying22 Try.underlying5 (by kernel_rfl) hf with ⟨hcs, _⟩ | ⟨x, l, c, zs, hcs, _, hl, hm, hz, _, hcell, hwz⟩
    · simp [Value.cells] at hcs
      obtain ⟨rfl, rfl, rfl⟩ := hcs
      exact ⟨[], .inl ⟨rfl, rfl, rfl, rfl⟩⟩
    · simp [Value.cells] at hcs
      obtain ⟨rfl, rfl, rfl⟩ := hcs
      exact ⟨zs, .inr ⟨_, rfl, hl, hm, by simpa using hz, hcell, hwz⟩⟩
  refine (walk a0 len0 cap0 z0 a1 len1 cap1 z1 W w0 w1).mono fun e W' ⟨he, bel⟩ => ?_
  subst he
  exact ⟨_, rfl, _, _, _, [], _, [], hW', trodAll_mk1 (shut_bool Try.underlying4 _), (trodAll_cons_mk (Below.trod laidOut (by kernel_rfl) (of_decide_eq_true (by kernel_rfl)) k0 bel lt0) (trodAll_cons_mk (Below.trod laidOut (by kernel_rfl) (of_decide_eq_true (by kernel_rfl)) k1 bel lt1) trodAll_mk0)), rfl, bel.frame _, fun h => by cases h⟩

theorem over : Rows.deltaMakesRow.holds Try.pinned (OpenSpec.ofChange Rows.deltaMakesSpec) :=
  OpenClaim.holds_of_wide 4 Try.f4 rfl rfl rfl rfl rfl rfl rfl ⟨rfl, rfl, rfl, rfl, rfl⟩ rfl rfl rfl rfl rfl (by kernel_rfl) Try.func4 (by kernel_rfl)
    (of_decide_eq_true (by kernel_rfl)) (by unfold Func.isWrapper; first | (rw [if_pos (by decide +kernel)]; kernel_rfl) | (rw [if_neg (by decide +kernel)]; exact ⟨rfl, rfl⟩))
    (fun os started H enc _ => lifted os started H enc)

/-- The statement. -/
theorem proved : Rows.DeltaMakesSaid := over
#print axioms proved
end Go.Proofs.Ytkpnmagcmpljoaa.deltaMakes
