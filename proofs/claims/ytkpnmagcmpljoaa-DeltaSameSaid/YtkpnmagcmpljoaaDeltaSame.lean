/- The program's statement DeltaSame holds: for every input it returns true and leaves its arguments as they were. No further condition. -/
import Derived.Test.YtkpnmagcmpljoaaRows
import Derived.WalkKit
import Derived.ProofKit
import Derived.OpenShut
import Derived.ShutString
import Derived.ChangeOld
import Derived.Below
import Derived.StillTailTactics
import Derived.Deep.RegionHeld3
import Derived.Deep.AppendLies
import Derived.StillTactics
import Derived.Deep.RegionWith
import Derived.WalkSpells
import Derived.Outline
import Derived.Test.YtkpnmagcmpljoaaRowB
namespace Go.Proofs.Ytkpnmagcmpljoaa.deltaSame
open Go.ChangeShapes Go.WideShapes Go.ChangeAt Go.RowKit
open Go.ChangeMaps (open_string shut_string)
set_option linter.unusedVariables false

theorem own : ownKnob Try.prog.godebug = none := by kernel_rfl
theorem laidOut : laidOutB Try.prog = true := by kernel_rfl

/-- A slice of integers that came in: nil, or a row of cells. -/
def IsRow (k : IntKind) (w : World) (a : Option Addr) (len cap : Nat) (zs : List Int) : Prop :=
  (a = none ∧ len = 0 ∧ cap = 0 ∧ zs = []) ∨
  ∃ x, a = some x ∧ len ≤ cap ∧ cap ≤ maxLen ∧ zs.length = cap ∧ (∀ i, i < zs.length → w.cell? (x.add i) = some (.int k (zs.getD i 0))) ∧ ∀ n ∈ zs, (Lit.int k n).wf = true
open Plain
/-! ### The walk -/
set_option maxRecDepth 100000 in
set_option maxHeartbeats 16000000 in
theorem walk (a0 : Option Addr) (len0 cap0 : Nat) (z0 : List Int) (a1 : Int) (w : World) (w0 : IsRow .u8 w a0 len0 cap0 z0) (w1 : (Lit.int .i64 a1).wf = true) :
    Calls Try.prog 5 #[.slice a0 len0 cap0, .int .i64 a1] w fun e w' => e = .returned (.bool true) ∧ Below w.heap.size w w' := by
  obtain ⟨hr0, hlc0, hcm0⟩ := row_in w0 1000
  have R0 := Lib.hid hr0
  clear w0 w1 hr0
  generalize (z0.take len0).take 1000 = x0 at *
  have HF0 : Hid (∀ W, Calls Try.prog 8 #[.slice a0 len0 cap0] W fun e w' => e = .returned (.slice a0 (min len0 1000) cap0) ∧ w' = W) := fun W => few_any a0 len0 cap0 W hlc0 hcm0
  obtain ⟨m0, hm0⟩ : ∃ m, min len0 1000 = m := ⟨_, rfl⟩
  have k0 : m0 ≤ 1000 := by omega
  rw [hm0] at R0 HF0
  clear hm0
  obtain ⟨r, hr5, hr⟩ : ∃ r : Nat, r < 200 ∧ wrap64 ((IntKind.u64.wrap a1).tmod 200) = (r : Int) := by
    have h0 : 0 ≤ IntKind.u64.wrap a1 := by rw [IntKind.wrap_u64]; omega
    rw [Int.tmod_eq_emod_of_nonneg h0]
    generalize IntKind.u64.wrap a1 = u at *
    refine ⟨(u % 200).toNat, by omega, ?_⟩
    rw [show u % 200 = (((u % 200).toNat : Nat) : Int) by omega, wrap_nat _ (by omega)]
    simp
  go_enter Try.func5, Try.ntmps5
  go_wp2_with fail
  refine (HF0.out w).mono ?_
  rintro e wq ⟨rfl, hwq⟩
  have hwq2 := hwq.symm
  subst hwq2
  clear hwq HF0
  go_wp2_with fail
  go_loopw [5, 6] (fun v i wr => ∃ (k n : Nat) (a : Option Addr) (c : Nat) (xs : List Int), i = .int .i64 (k : Int) ∧ k ≤ r + 1 ∧ v = .slice a n c ∧ n ≤ 1000 * k ∧ Mid wr w.heap.size (.slice a n c) n xs ∧ (∀ j : Nat, 0 ≤ xs[j]?.getD 0 ∧ xs[j]?.getD 0 ≤ 255) ∧ Below w.heap.size w wr) (fun _ i _ => 200 - (intOf i).toNat)
  case atStart => exact ⟨0, 0, none, 0, [], rfl, by omega, rfl, by omega, Mid.nil _ _, nil_range, Below.refl _ _⟩
  case round =>
    obtain ⟨k, n, a, c, xs, rfl, hk, rfl, hn, hm, hx, hb⟩ := hrel
    have HM := Lib.hid hm
    have HX := Lib.hid hx
    have HB := Lib.hid hb
    clear hm hx hb
    by_cases hlt : k ≤ r
    · have hle : (k : Int) ≤ (r : Int) := by omega
      have tok : True := trivial
      go_wp2_with (
        have _t := tok
        at_builtin
        refine wpList_append_to rfl _ _ 22 rfl w.heap.size (.slice a n c) n xs rfl HM.out _ m0 x0 rfl (src_bytes (R0.out.below HB.out).bytes) (n + m0) (xs ++ x0) rfl rfl (by omega) HB.out.size ?_
        intro a' c' w2 hm hb
        have HM2 := Lib.hid hm
        have HB2 : Hid (Below w.heap.size w w2) := HB.out.trans hb
        clear tok hm hb
        refine Hid.out ?_)
      refine unhid ?_
      have HX2 := Lib.hid (range_append HX.out R0.out.range)
      go_wp2_with fail
      exact ⟨⟨k + 1, n + m0, a', c', xs ++ x0, by go_num, by omega, rfl, by omega, HM2.out, HX2.out, HB2.out⟩, by simp [intOf]; omega⟩
    · have hle : ¬ (k : Int) ≤ (r : Int) := by omega
      have hn5 : n ≤ 200000 := by omega
      have HR := Lib.hid (HM.out.row HX.out)
      have HE : Hid (Mid (wr.alloc (.cells #[] 5)) wr.heap.size (.slice (some ⟨wr.heap.size, 0, none⟩) 0 0) 0 []) := (Own.empty wr).mid
      have HQ : Hid (Below wr.heap.size wr (wr.alloc (.cells #[] 5))) := (Below.refl _ _).alloc (Nat.le_refl _) _
      have tok : True := trivial
      go_wp2_with (
        have _t := tok
        at_builtin
        refine wpList_append_to rfl _ _ 22 rfl wr.heap.size (.slice (some ⟨wr.heap.size, 0, none⟩) 0 0) 0 [] rfl HE.out _ n xs rfl (src_bytes (HR.out.below HQ.out).bytes) n xs (Nat.zero_add _) (List.nil_append _) (by omega) HQ.out.size ?_
        intro a2 c2 w2 hm hb
        have HR2 := Lib.hid (hm.row HX.out)
        have HB2 : Hid (Below wr.heap.size wr w2) := HQ.out.trans hb
        clear tok hm hb
        refine Hid.out ?_)
      refine unhid ?_
      have HR3 := Lib.hid (HR.out.below HB2.out)
      have HW2 : Hid (Below w.heap.size w w2) := HB.out.trans (HB2.out.mono HB.out.size)
      clear HE HQ HM
      go_wp2_with fail
      refine (make_row a n c xs (by omega) a2 n c2 xs (by omega) w2 HR3.out HR2.out).mono ?_
      rintro e v1 ⟨⟨da, dk, dc, D, S, rfl, hd, hmade, -⟩, hb⟩
      have hdk := made_same hmade rfl
      rw [hd.len] at hdk
      have HD := Lib.hid hd
      have HW3 : Hid (Below w.heap.size w v1) := HW2.out.trans (hb.mono HW2.out.size)
      have HR4 := Lib.hid (HR3.out.below hb)
      have hap := made_apply hmade (by rw [HR.out.len]; omega) (by rw [HR.out.len]; omega) (n : Int) (by rw [HR.out.len]; exact Int.le_refl _)
      have HAP := Lib.hid hap
      clear hd hmade hb hap
      go_wp2_with fail
      refine (apply_row a n c xs (by omega) da dk dc D (by omega) (n : Int) (by omega) 0 xs n v1 HR4.out HD.out HAP.out HR.out.len HX.out).mono ?_
      rintro e v2 ⟨⟨xa, xc, rfl, hxr⟩, hb⟩
      have HXR := Lib.hid hxr
      have HW4 : Hid (Below w.heap.size w v2) := HW3.out.trans (hb.mono HW3.out.size)
      have HR5 := Lib.hid (HR4.out.below hb)
      clear hxr hb
      go_wp2_with fail
      refine (known_any v2).mono ?_
      rintro e v3 ⟨rfl, hb7⟩
      have HW7 : Hid (Below w.heap.size w v3) := HW4.out.trans (hb7.mono HW4.out.size)
      have t1 := text_run v3 xa n xc xs (HXR.out.below hb7).bytes
      have t2 := text_run v3 a n c xs (HR5.out.below hb7).bytes
      clear hb7
      generalize strOfNums xs = T0 at *
      have hfin : (dk : Int) ≤ 30 + 7 * ((n : Int) / 65536) := by omega
      go_wp2_with fail
      go_ret
      exact ⟨rfl, HW7.out⟩

/-! ### The row's step -/
set_option maxRecDepth 100000 in
theorem lifted (os : Os) (started : os.Started) (H : Type) (enc : TypeId × Value → H) :
    ReturnsInHanded {} Try.checked os 5 .any (Rows.deltaSameSpec.pre6 enc Try.prog Try.f5 Rows.deltaSameRow.domain false) (Rows.deltaSameSpec.post enc Try.prog Try.f5 false true false false) := by
  refine returnsInHanded_of_change (C := Try.checked) own started (by kernel_rfl) Try.func5
    (ChangeSpec.witness6 (enc := enc) (C := Try.checked) false ⟨#[], #[.slice none 0 0, .int .i64 0], []⟩ 8 (by kernel_rfl) (by kernel_rfl) (by kernel_rfl) (by kernel_rfl)) ?_
  intro W base args ds gs before hval0 hW hcnd _
  have hval : ∀ (j : Nat) t v, Try.f5.params[j]? = some t → args[j]? = some v → Value.okWide Try.prog W .any base t v := hval0
  have hW' := hW
  obtain ⟨p, q, hA0, hV, rfl, hfz, hnd⟩ := hW
  have hA : DataW.TrodAll enc Try.prog W 0 (fun _ => true) true Try.f5.params.toList args.toList ds p := hA0
  rw [Try.params5] at hA hval
  obtain ⟨v0, vs0, d0, ds0, p0, q0, hargs, rfl, rfl, h0, r0⟩ := trodAll_cons hA
  obtain ⟨v1, vs1, d1, ds1, p1, q1, rfl, rfl, rfl, h1, r1⟩ := trodAll_cons r0
  obtain ⟨rfl, rfl, rfl⟩ := trodAll_nil r1
  obtain rfl : args = #[v0, v1] := by cases args; simp_all
  obtain ⟨rfl, rfl⟩ := trodVars_none hV
  obtain ⟨a0, len0, cap0, rfl⟩ := okWide_slice Try.underlying22 (hval 0 22 v0 rfl rfl)
  have k0 := h0
  have lt0 : ∀ x ∈ p0, x.block < W.heap.size := by obtain ⟨m, hm⟩ := k0; exact DataW.trod_lt m _ _ _ hm
  obtain ⟨z0, w0⟩ : ∃ zs, IsRow .u8 W a0 len0 cap0 zs := by
    obtain ⟨fuel, hf⟩ := h0
    rcases open_ints Try.underlying22 Try.underlying5 (by kernel_rfl) hf with ⟨hcs, _⟩ | ⟨x, l, c, zs, hcs, _, hl, hm, hz, _, hcell, hwz⟩
    · simp [Value.cells] at hcs
      obtain ⟨rfl, rfl, rfl⟩ := hcs
      exact ⟨[], .inl ⟨rfl, rfl, rfl, rfl⟩⟩
    · simp [Value.cells] at hcs
      obtain ⟨rfl, rfl, rfl⟩ := hcs
      exact ⟨zs, .inr ⟨_, rfl, hl, hm, by simpa using hz, hcell, hwz⟩⟩
  obtain ⟨a1, rfl, rfl, rfl, w1⟩ := open_int Try.underlying3 (hval 1 3 v1 rfl rfl) h1
  refine (walk a0 len0 cap0 z0 a1 W w0 w1).mono fun e W' ⟨he, bel⟩ => ?_
  subst he
  exact ⟨_, rfl, _, _, _, [], _, [], hW', trodAll_mk1 (shut_bool Try.underlying4 _), (trodAll_cons_mk (Below.trod laidOut (by kernel_rfl) (of_decide_eq_true (by kernel_rfl)) k0 bel lt0) (trodAll_cons_mk (shut_int Try.underlying3 w1) trodAll_mk0)), rfl, bel.frame _, fun h => by cases h⟩

theorem over : Rows.deltaSameRow.holds Try.pinned (OpenSpec.ofChange Rows.deltaSameSpec) :=
  OpenClaim.holds_of_wide 5 Try.f5 rfl rfl rfl rfl rfl rfl rfl ⟨rfl, rfl, rfl, rfl, rfl⟩ rfl rfl rfl rfl rfl (by kernel_rfl) Try.func5 (by kernel_rfl)
    (of_decide_eq_true (by kernel_rfl)) (by unfold Func.isWrapper; first | (rw [if_pos (by decide +kernel)]; kernel_rfl) | (rw [if_neg (by decide +kernel)]; exact ⟨rfl, rfl⟩))
    (fun os started H enc _ => lifted os started H enc)

/-- The statement. -/
theorem proved : Rows.DeltaSameSaid := over
#print axioms proved
end Go.Proofs.Ytkpnmagcmpljoaa.deltaSame
