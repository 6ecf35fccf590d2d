/- The program's statement DeltaApplies holds: for every input it returns true and leaves its arguments as they were. No further condition. -/
import Derived.Test.YtkpnmagcmpljoaaRows
import Derived.WalkKit
import Derived.ProofKit
import Derived.OpenShut
import Derived.ShutString
import Derived.ChangeOld
import Derived.Below
import Derived.StillTailTactics
import Derived.Deep.RegionHeld3
import Derived.Deep.AppendLies
import Derived.StillTactics
import Derived.Deep.RegionWith
import Derived.WalkSpells
import Derived.Outline
import Derived.Test.YtkpnmagcmpljoaaRefApply
import Derived.Test.YtkpnmagcmpljoaaKnown
import Derived.Test.YtkpnmagcmpljoaaRange
namespace Go.Proofs.Ytkpnmagcmpljoaa.deltaApplies
open Go.ChangeShapes Go.WideShapes Go.ChangeAt Go.RowKit
open Go.ChangeMaps (open_string shut_string)
set_option linter.unusedVariables false

theorem own : ownKnob Try.prog.godebug = none := by kernel_rfl
theorem laidOut : laidOutB Try.prog = true := by kernel_rfl

/-- A slice of integers that came in: nil, or a row of cells. -/
def IsRow (k : IntKind) (w : World) (a : Option Addr) (len cap : Nat) (zs : List Int) : Prop :=
  (a = none ∧ len = 0 ∧ cap = 0 ∧ zs = []) ∨
  ∃ x, a = some x ∧ len ≤ cap ∧ cap ≤ maxLen ∧ zs.length = cap ∧ (∀ i, i < zs.length → w.cell? (x.add i) = some (.int k (zs.getD i 0))) ∧ ∀ n ∈ zs, (Lit.int k n).wf = true
open Plain
theorem nil_row {k : IntKind} {w : World} {a : Option Addr} {len cap : Nat} {zs : List Int} (h : IsRow k w a len cap zs) : a = none → cap = 0 := by
  rcases h with ⟨-, -, h, -⟩ | ⟨x, rfl, -⟩
  · exact fun _ => h
  · exact fun e => by cases e
theorem run_min2 {P : Program} (ts : Array TypeId) (t : TypeId) (k k1 : IntKind) (x y : Int) (w : World) : (Builtin.min_ ts t #[.int k x, .int k1 y]).run P w = .ok (.int k (min x y)) w := by
  have e : ∀ p q : Int, (if q < p then q else p) = min p q := fun p q => by split <;> omega
  simp [Builtin.min_, Builtin.min2, e]
/-! ### The walk -/
set_option maxRecDepth 100000 in
set_option maxHeartbeats 16000000 in
theorem walk (a0 : Option Addr) (len0 cap0 : Nat) (z0 : List Int) (a1 : Option Addr) (len1 cap1 : Nat) (z1 : List Int) (a2 : Int) (w : World) (w0 : IsRow .u8 w a0 len0 cap0 z0) (w1 : IsRow .u8 w a1 len1 cap1 z1) (w2 : (Lit.int .i64 a2).wf = true) :
    Calls Try.prog 3 #[.slice a0 len0 cap0, .slice a1 len1 cap1, .int .i64 a2] w fun e w' => e = .returned (.bool true) ∧ Below w.heap.size w w' := by
  have HN0 : Hid (a0 = none → cap0 = 0) := nil_row w0
  have HN1 : Hid (a1 = none → cap1 = 0) := nil_row w1
  obtain ⟨hb0, hlc0, hcm0⟩ := bytes_of w0
  obtain ⟨hb1, hlc1, hcm1⟩ := bytes_of w1
  have HB0 : Hid (Bytes w a0 (min len0 1000) ((z0.take len0).take 1000)) := hb0.first 1000
  have HB1 : Hid (Bytes w a1 (min len1 1000) ((z1.take len1).take 1000)) := hb1.first 1000
  clear w0 w1 w2 hb0 hb1
  generalize (z0.take len0).take 1000 = bas at *
  generalize (z1.take len1).take 1000 = pat at *
  obtain ⟨m, hm⟩ : ∃ m, min len0 1000 = m := ⟨_, rfl⟩
  obtain ⟨q, hq⟩ : ∃ q, min len1 1000 = q := ⟨_, rfl⟩
  have hm5 : m ≤ 1000 := by omega
  have hmc : m ≤ cap0 := by omega
  have hq5 : q ≤ 1000 := by omega
  have hqc : q ≤ cap1 := by omega
  rw [hm] at HB0
  rw [hq] at HB1
  have HF : Hid (∀ W, Calls Try.prog 8 #[.slice a0 len0 cap0] W fun e w' => e = .returned (.slice a0 m cap0) ∧ w' = W) := fun W => by
    rw [← hm]; exact few_any a0 len0 cap0 W hlc0 hcm0
  have HG : Hid (∀ W, Calls Try.prog 8 #[.slice a1 len1 cap1] W fun e w' => e = .returned (.slice a1 q cap1) ∧ w' = W) := fun W => by
    rw [← hq]; exact few_any a1 len1 cap1 W hlc1 hcm1
  clear hm hq
  obtain ⟨mo, hmo⟩ : ∃ mo, min a2 70000 = mo := ⟨_, rfl⟩
  have hmn : ∀ (ts : Array TypeId) (t : TypeId) (W : World), (Builtin.min_ ts t #[.int .i64 a2, .int .i64 70000]).run Try.prog W = .ok (.int .i64 mo) W := fun ts t W => by rw [← hmo]; exact run_min2 ts t .i64 .i64 a2 70000 W
  have hmo5 : mo ≤ 70000 := by omega
  clear hmo
  have rb : ∀ x ∈ bas, 0 ≤ x ∧ x ≤ 255 := getD_bytes4 HB0.out
  have rp : ∀ x ∈ pat, 0 ≤ x ∧ x ≤ 255 := getD_bytes4 HB1.out
  obtain ⟨e1, x1, hr1⟩ : ∃ e x, applyOf bas pat mo = (e, x) := ⟨_, _, rfl⟩
  have hrg := applyOf_range bas pat mo rb rp
  rw [hr1] at hrg
  have he1 : e1 ≤ 4 := hrg.2
  have HX1R : Hid (∀ j : Nat, 0 ≤ x1[j]?.getD 0 ∧ x1[j]?.getD 0 ≤ 255) := range_of_mem hrg.1
  have HR1 : Hid (applyOf bas pat mo = (e1, x1)) := hr1
  obtain ⟨n1, hn1⟩ : ∃ n, x1.length = n := ⟨_, rfl⟩
  have HN1L : Hid (x1.length = n1) := hn1
  obtain ⟨sa, sb, sat, se, hs⟩ : ∃ sa sb sat se, sizesOf pat = (sa, sb, sat, se) := ⟨_, _, _, _, rfl⟩
  have HSZ : Hid (sizesOf pat = (sa, sb, sat, se)) := hs
  have hse : se ≤ 3 := by have := sizesOf_le pat; rw [hs] at this; exact this
  clear hr1 hrg rb rp hn1 hs
  go_enter Try.func3, Try.ntmps3
  go_wp2_with fail
  refine (HF.out w).mono ?_
  rintro e wq ⟨rfl, hwq⟩
  have hwq2 := hwq.symm
  subst hwq2
  clear hwq
  go_wp2_with fail
  refine (HG.out w).mono ?_
  rintro e wq ⟨rfl, hwq⟩
  have hwq2 := hwq.symm
  subst hwq2
  clear hwq HF HG
  have HWD : Hid (Below w.heap.size w w.drew) := (Below.refl _ _).drew
  have t1 := text_run w.drew a0 m cap0 bas (HB0.out.below HWD.out)
  have t2 := text_run w.drew a1 q cap1 pat (HB1.out.below HWD.out)
  go_wp2_with fail
  apply wp_via
  · go_region_held3 (fun W => (convert 22 9 (.slice a0 m cap0)).run Try.prog W = .ok (.string (strOfNums bas)) W ∧ (convert 22 9 (.slice a1 q cap1)).run Try.prog W = .ok (.string (strOfNums pat)) W)
        (first | (exact ⟨t1, t2⟩) | assumption) (fail)
    all_goals exact ⟨rfl, rfl, rfl⟩
  have HW1 : Hid (Below w.heap.size w w.drew) := HWD.out
  clear t1 t2 hmn HWD
  generalize w.drew = w1 at *
  go_wp2_with fail
  refine (apply_any a0 m cap0 bas a1 q cap1 pat mo w1 hmc HN0.out (by omega) (HB0.out.below HW1.out) hqc HN1.out (by omega) (HB1.out.below HW1.out) (by omega)).mono ?_
  rw [HR1.out]
  rintro e w2 ⟨⟨v1, rfl, hv1⟩, hb2⟩
  dsimp only at hv1 ⊢
  rw [HN1L.out] at hv1
  obtain ⟨va1, vc1, rfl, -, -, -⟩ := hv1.shape
  have HW2 : Hid (Below w.heap.size w w2) := HW1.out.trans (hb2.mono HW1.out.size)
  have HA2 : Hid (Bytes w2 va1 n1 x1) := hv1.bytes HX1R.out
  clear hv1 hb2
  go_wp2_with fail
  refine (ref_apply a0 m cap0 bas a1 q cap1 pat mo w2 hmc HN0.out (by omega) (HB0.out.below HW2.out) hqc HN1.out (by omega) (HB1.out.below HW2.out) (by omega)).mono ?_
  rw [HR1.out]
  rintro e w3 ⟨⟨v2, rfl, hv2⟩, hb3⟩
  dsimp only at hv2 ⊢
  rw [HN1L.out] at hv2
  obtain ⟨va2, vc2, rfl, -, -, -⟩ := hv2.shape
  have HW3 : Hid (Below w.heap.size w w3) := HW2.out.trans (hb3.mono HW2.out.size)
  have HA3 : Hid (Bytes w3 va1 n1 x1) := HA2.out.below hb3
  have HC3 : Hid (Bytes w3 va2 n1 x1) := hv2.bytes HX1R.out
  clear hv2 hb3
  go_wp2_with fail
  refine (sizes_any a1 q cap1 pat w3 hqc (HB1.out.below HW3.out)).mono ?_
  rw [HSZ.out]
  rintro e w4 ⟨rfl, hb4⟩
  dsimp only
  have HW4 : Hid (Below w.heap.size w w4) := HW3.out.trans (hb4.mono HW3.out.size)
  have HA4 : Hid (Bytes w4 va1 n1 x1) := HA3.out.below hb4
  have HC4 : Hid (Bytes w4 va2 n1 x1) := HC3.out.below hb4
  clear hb4
  go_wp2_with fail
  refine (sizesRef_any a1 q cap1 pat w4 hqc (by omega) (HB1.out.below HW4.out)).mono ?_
  rw [HSZ.out]
  rintro e w5 ⟨rfl, hw5⟩
  dsimp only
  have hw52 := hw5.symm
  subst hw52
  clear hw5
  go_wp2_with fail
  refine (known_any w4).mono ?_
  rintro e w6 ⟨rfl, hb6⟩
  have HW6 : Hid (Below w.heap.size w w6) := HW4.out.trans (hb6.mono HW4.out.size)
  have t1 := text_run w6 a0 m cap0 bas (HB0.out.below HW6.out)
  have t2 := text_run w6 a1 q cap1 pat (HB1.out.below HW6.out)
  have t3 := text_run w6 va1 n1 vc1 x1 (HA4.out.below hb6)
  have t4 := text_run w6 va2 n1 vc2 x1 (HC4.out.below hb6)
  clear hb6
  generalize strOfNums bas = S1 at *
  generalize strOfNums pat = S2 at *
  generalize strOfNums x1 = S3 at *
  go_wp2_with fail
  go_ret
  exact ⟨rfl, HW6.out⟩

/-! ### The row's step -/
set_option maxRecDepth 100000 in
theorem lifted (os : Os) (started : os.Started) (H : Type) (enc : TypeId × Value → H) :
    ReturnsInHanded {} Try.checked os 3 .any (Rows.deltaAppliesSpec.pre6 enc Try.prog Try.f3 Rows.deltaAppliesRow.domain false) (Rows.deltaAppliesSpec.post enc Try.prog Try.f3 false true false false) := by
  refine returnsInHanded_of_change (C := Try.checked) own started (by kernel_rfl) Try.func3
    (ChangeSpec.witness6 (enc := enc) (C := Try.checked) false ⟨#[], #[.slice none 0 0, .slice none 0 0, .int .i64 0], []⟩ 8 (by kernel_rfl) (by kernel_rfl) (by kernel_rfl) (by kernel_rfl)) ?_
  intro W base args ds gs before hval0 hW hcnd _
  have hval : ∀ (j : Nat) t v, Try.f3.params[j]? = some t → args[j]? = some v → Value.okWide Try.prog W .any base t v := hval0
  have hW' := hW
  obtain ⟨p, q, hA0, hV, rfl, hfz, hnd⟩ := hW
  have hA : DataW.TrodAll enc Try.prog W 0 (fun _ => true) true Try.f3.params.toList args.toList ds p := hA0
  rw [Try.params3] at hA hval
  obtain ⟨v0, vs0, d0, ds0, p0, q0, hargs, rfl, rfl, h0, r0⟩ := trodAll_cons hA
  obtain ⟨v1, vs1, d1, ds1, p1, q1, rfl, rfl, rfl, h1, r1⟩ := trodAll_cons r0
  obtain ⟨v2, vs2, d2, ds2, p2, q2, rfl, rfl, rfl, h2, r2⟩ := trodAll_cons r1
  obtain ⟨rfl, rfl, rfl⟩ := trodAll_nil r2
  obtain rfl : args = #[v0, v1, v2] := by cases args; simp_all
  obtain ⟨rfl, rfl⟩ := trodVars_none hV
  obtain ⟨a0, len0, cap0, rfl⟩ := okWide_slice Try.underlying22 (hval 0 22 v0 rfl rfl)
  have k0 := h0
  have lt0 : ∀ x ∈ p0, x.block < W.heap.size := by obtain ⟨m, hm⟩ := k0; exact DataW.trod_lt m _ _ _ hm
  obtain ⟨z0, w0⟩ : ∃ zs, IsRow .u8 W a0 len0 cap0 zs := by
    obtain ⟨fuel, hf⟩ := h0
    rcases open_ints Try.underlying22 Try.underlying5 (by kernel_rfl) hf with ⟨hcs, _⟩ | ⟨x, l, c, zs, hcs, _, hl, hm, hz, _, hcell, hwz⟩
    · simp [Value.cells] at hcs
      obtain ⟨rfl, rfl, rfl⟩ := hcs
      exact ⟨[], .inl ⟨rfl, rfl, rfl, rfl⟩⟩
    · simp [Value.cells] at hcs
      obtain ⟨rfl, rfl, rfl⟩ := hcs
      exact ⟨zs, .inr ⟨_, rfl, hl, hm, by simpa using hz, hcell, hwz⟩⟩
  obtain ⟨a1, len1, cap1, rfl⟩ := okWide_slice Try.underlying22 (hval 1 22 v1 rfl rfl)
  have k1 := h1
  have lt1 : ∀ x ∈ p1, x.block < W.heap.size := by obtain ⟨m, hm⟩ := k1; exact DataW.trod_lt m _ _ _ hm
  obtain ⟨z1, w1⟩ : ∃ zs, IsRow .u8 W a1 len1 cap1 zs := by
    obtain ⟨fuel, hf⟩ := h1
    rcases open_ints Try.underlying22 Try.underlying5 (by kernel_rfl) hf with ⟨hcs, _⟩ | ⟨x, l, c, zs, hcs, _, hl, hm, hz, _, hcell, hwz⟩
    · simp [Value.cells] at hcs
      obtain ⟨rfl, rfl, rfl⟩ := hcs
      exact ⟨[], .inl ⟨rfl, rfl, rfl, rfl⟩⟩
    · simp [Value.cells] at hcs
      obtain ⟨rfl, rfl, rfl⟩ := hcs
      exact ⟨zs, .inr ⟨_, rfl, hl, hm, by simpa using hz, hcell, hwz⟩⟩
  obtain ⟨a2, rfl, rfl, rfl, w2⟩ := open_int Try.underlying3 (hval 2 3 v2 rfl rfl) h2
  refine (walk a0 len0 cap0 z0 a1 len1 cap1 z1 a2 W w0 w1 w2).mono fun e W' ⟨he, bel⟩ => ?_
  subst he
  exact ⟨_, rfl, _, _, _, [], _, [], hW', trodAll_mk1 (shut_bool Try.underlying4 _), (trodAll_cons_mk (Below.trod laidOut (by kernel_rfl) (of_decide_eq_true (by kernel_rfl)) k0 bel lt0) (trodAll_cons_mk (Below.trod laidOut (by kernel_rfl) (of_decide_eq_true (by kernel_rfl)) k1 bel lt1) (trodAll_cons_mk (shut_int Try.underlying3 w2) trodAll_mk0))), rfl, bel.frame _, fun h => by cases h⟩

theorem over : Rows.deltaAppliesRow.holds Try.pinned (OpenSpec.ofChange Rows.deltaAppliesSpec) :=
  OpenClaim.holds_of_wide 3 Try.f3 rfl rfl rfl rfl rfl rfl rfl ⟨rfl, rfl, rfl, rfl, rfl⟩ rfl rfl rfl rfl rfl (by kernel_rfl) Try.func3 (by kernel_rfl)
    (of_decide_eq_true (by kernel_rfl)) (by unfold Func.isWrapper; first | (rw [if_pos (by decide +kernel)]; kernel_rfl) | (rw [if_neg (by decide +kernel)]; exact ⟨rfl, rfl⟩))
    (fun os started H enc _ => lifted os started H enc)

/-- The statement. -/
theorem proved : Rows.DeltaAppliesSaid := over
#print axioms proved
end Go.Proofs.Ytkpnmagcmpljoaa.deltaApplies
