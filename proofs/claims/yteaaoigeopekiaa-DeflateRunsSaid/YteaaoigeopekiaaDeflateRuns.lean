/- The program's statement DeflateRuns holds: for every input it returns true and leaves its arguments as they were. No further condition. -/
import Derived.Test.YteaaoigeopekiaaRows
import Derived.WalkKit
import Derived.ProofKit
import Derived.OpenShut
import Derived.ShutString
import Derived.ChangeOld
import Derived.Below
import Derived.StillTailTactics
import Derived.Deep.RegionHeld3
import Derived.Deep.AppendLies
import Derived.StillTactics
import Derived.Deep.RegionWith
import Derived.WalkSpells
import Derived.Outline
import Derived.Test.YteaaoigeopekiaaRawPack
import Derived.Test.YteaaoigeopekiaaFew
namespace Go.Proofs.Yteaaoigeopekiaa.deflateRuns
open Go.ChangeShapes Go.WideShapes Go.ChangeAt Go.RowKit
open Go.ChangeMaps (open_string shut_string)
set_option linter.unusedVariables false

theorem own : ownKnob Try.prog.godebug = none := by kernel_rfl
theorem laidOut : laidOutB Try.prog = true := by kernel_rfl

/-- A slice of integers that came in: nil, or a row of cells. -/
def IsRow (k : IntKind) (w : World) (a : Option Addr) (len cap : Nat) (zs : List Int) : Prop :=
  (a = none ∧ len = 0 ∧ cap = 0 ∧ zs = []) ∨
  ∃ x, a = some x ∧ len ≤ cap ∧ cap ≤ maxLen ∧ zs.length = cap ∧ (∀ i, i < zs.length → w.cell? (x.add i) = some (.int k (zs.getD i 0))) ∧ ∀ n ∈ zs, (Lit.int k n).wf = true
open Plain
/-! ### The walk -/
set_option maxRecDepth 100000 in
set_option maxHeartbeats 16000000 in
theorem walk (a0 : Int) (a1 : Int) (w : World) (w0 : (Lit.int .u8 a0).wf = true) (w1 : (Lit.int .i64 a1).wf = true) :
    Calls Try.prog 6 #[.int .u8 a0, .int .i64 a1] w fun e w' => e = .returned (.bool true) ∧ Below w.heap.size w w' := by
  have h0 : 0 ≤ a0 ∧ a0 ≤ 255 := by simpa [Lit.wf, IntKind.min, IntKind.max, IntKind.signed, IntKind.bits] using w0
  obtain ⟨n, hn9, et⟩ : ∃ n : Nat, n < 9000 ∧ wrap64 ((IntKind.u64.wrap a1).tmod 9000) = (n : Int) := by
    have h0 : 0 ≤ IntKind.u64.wrap a1 := by rw [IntKind.wrap_u64]; omega
    generalize IntKind.u64.wrap a1 = u at *
    rw [Int.tmod_eq_emod_of_nonneg h0, IntWalk.wrap64_in _ (by omega)]
    exact ⟨(u % 9000).toNat, by omega, by omega⟩
  have ET := Lib.hid et
  clear w0 w1 et
  go_enter Try.func6, Try.ntmps6
  go_wp2_with fail
  rw [ET.out]
  go_loopw [5, 6] (fun v vi wr => ∃ i : Nat, vi = .int .i64 (i : Int) ∧ i ≤ n ∧ Mid wr w.heap.size v i (List.replicate i a0) ∧ Below w.heap.size w wr) (fun _ vi _ => n - (intOf vi).toNat)
  case atStart => exact ⟨0, rfl, by omega, Mid.nil _ _, Below.refl _ _⟩
  case round =>
    obtain ⟨i, rfl, hi, hm, hb⟩ := hrel
    have HM := Lib.hid hm
    have HB := Lib.hid hb
    obtain ⟨va, vc, rfl, -⟩ := hm.shape
    have hsz : w.heap.size ≤ wr.heap.size := hb.size
    clear hm hb
    by_cases hlt : i < n
    · have hli : (i : Int) < (n : Int) := by omega
      have HL : Hid (Bytes (wr.alloc (.cells #[.int .u8 a0] 5)) (some ⟨wr.heap.size, 0, none⟩) 1 [a0]) := Bytes.lit wr wr.heap.size rfl [a0] 5 (0, 0) 1 rfl (by omega) (fun x hx => by rw [List.mem_singleton.1 hx]; exact h0)
      have HN : Hid (Below wr.heap.size wr (wr.alloc (.cells #[.int .u8 a0] 5))) := (Below.refl _ _).alloc (Nat.le_refl _) _
      have tok : True := trivial
      go_wp2_with (
        have _t := tok
        at_builtin
        refine wpList_append_to rfl _ _ 22 rfl w.heap.size (.slice va i vc) i (List.replicate i a0) rfl (HM.out.below HN.out) _ 1 [a0] rfl (src_bytes HL.out) (i + 1) (List.replicate (i + 1) a0) rfl List.replicate_succ'.symm (by omega) (Nat.le_trans hsz HN.out.size) ?_
        intro pa pc p2 hm hb
        have HM2 := Lib.hid hm
        have HB2 : Hid (Below w.heap.size w p2) := (HB.out.trans (HN.out.mono hsz)).trans hb
        clear tok hm hb
        refine Hid.out ?_)
      refine unhid ?_
      clear HM HL
      go_wp2_with fail
      go_roundw
      case rel => exact ⟨i + 1, by go_num, by omega, HM2.out, HB2.out⟩
      case measure => simp [intOf]; go_num
    · have hin : i = n := by omega
      subst hin
      have hli : ¬ (i : Int) < (i : Int) := by omega
      have HMEM : Hid (∀ x ∈ List.replicate i a0, 0 ≤ x ∧ x ≤ 255) := fun x hx => by rw [List.eq_of_mem_replicate hx]; exact h0
      have HR := Lib.hid (HM.out.row (range_of_mem0 HMEM.out))
      have hlen : (List.replicate i a0).length = i := List.length_replicate ..
      obtain ⟨q, hq1, hq2⟩ := rawPack_back (most := i) HMEM.out (by rw [hlen]; omega) (by rw [hlen]; exact Nat.le_refl _)
      have hrl := run_len i a0 (by omega)
      have HPK := Lib.hid (rawPack_any va i vc (List.replicate i a0) wr HR.out (by omega))
      obtain ⟨P, hP⟩ : ∃ P, rawPack (List.replicate i a0) = P := ⟨_, rfl⟩
      rw [hP] at hq1 hq2 hrl HPK
      obtain ⟨xs, hxs⟩ : ∃ xs, List.replicate i a0 = xs := ⟨_, rfl⟩
      rw [hxs] at HR hq1 hlen
      obtain ⟨pl, hpl⟩ : ∃ pl, P.length = pl := ⟨_, rfl⟩
      rw [hpl] at hq2 hrl HPK
      have hple : (pl : Int) ≤ 20 + (i : Int) / 50 := by omega
      have hpl9 : pl ≤ 10000 := by omega
      have HQ1 := Lib.hid hq1
      have HQ2 := Lib.hid hq2
      have HXL := Lib.hid hlen
      clear hq1 hq2 hrl hP hxs hlen HM HMEM hpl
      go_wp2_with fail
      refine HPK.out.mono ?_
      rintro e w2 ⟨⟨pa, pc, rfl, hrow⟩, hb⟩
      have HP := Lib.hid hrow
      have HR2 := Lib.hid (HR.out.below hb)
      have HB2 : Hid (Below w.heap.size w w2) := HB.out.trans (hb.mono hsz)
      clear hrow hb HPK HR
      go_wp2_with fail
      refine (raw_row pa pl pc P (i : Int) i w2 HP.out (by omega) rfl (by omega)).mono ?_
      rintro e w3 (⟨q', m', ya, yc, hr, rfl, hrow, -, hb, -⟩ | ⟨k', hr, hk', rfl, hb⟩)
      · rw [HQ1.out] at hr
        injection hr with hr
        injection hr with h1 h2
        subst h1 h2
        rw [HQ2.out]
        rw [HXL.out] at hrow ⊢
        have HZ := Lib.hid hrow
        have HR3 := Lib.hid (HR2.out.below hb)
        have HB3 : Hid (Below w.heap.size w w3) := HB2.out.trans (hb.mono HB2.out.size)
        clear hrow hb HR2 HP
        go_wp2_with fail
        refine (known_any w3).mono ?_
        rintro e w4 ⟨rfl, hb⟩
        have t1 := text_run w4 ya i yc xs (HZ.out.below hb).bytes
        have t2 := text_run w4 va i vc xs (HR3.out.below hb).bytes
        have HB4 : Hid (Below w.heap.size w w4) := HB3.out.trans (hb.mono HB3.out.size)
        clear hb HZ HR3 HB3
        go_wp2_with fail
        go_ret
        exact ⟨rfl, HB4.out⟩
      · rw [HQ1.out] at hr; cases hr

/-! ### The row's step -/
set_option maxRecDepth 100000 in
theorem lifted (os : Os) (started : os.Started) (H : Type) (enc : TypeId × Value → H) :
    ReturnsInHanded {} Try.checked os 6 .any (Rows.deflateRunsSpec.pre6 enc Try.prog Try.f6 Rows.deflateRunsRow.domain false) (Rows.deflateRunsSpec.post enc Try.prog Try.f6 false true false false) := by
  refine returnsInHanded_of_change (C := Try.checked) own started (by kernel_rfl) Try.func6
    (ChangeSpec.witness6 (enc := enc) (C := Try.checked) false ⟨#[], #[.int .u8 0, .int .i64 0], []⟩ 8 (by kernel_rfl) (by kernel_rfl) (by kernel_rfl) (by kernel_rfl)) ?_
  intro W base args ds gs before hval0 hW hcnd _
  have hval : ∀ (j : Nat) t v, Try.f6.params[j]? = some t → args[j]? = some v → Value.okWide Try.prog W .any base t v := hval0
  have hW' := hW
  obtain ⟨p, q, hA0, hV, rfl, hfz, hnd⟩ := hW
  have hA : DataW.TrodAll enc Try.prog W 0 (fun _ => true) true Try.f6.params.toList args.toList ds p := hA0
  rw [Try.params6] at hA hval
  obtain ⟨v0, vs0, d0, ds0, p0, q0, hargs, rfl, rfl, h0, r0⟩ := trodAll_cons hA
  obtain ⟨v1, vs1, d1, ds1, p1, q1, rfl, rfl, rfl, h1, r1⟩ := trodAll_cons r0
  obtain ⟨rfl, rfl, rfl⟩ := trodAll_nil r1
  obtain rfl : args = #[v0, v1] := by cases args; simp_all
  obtain ⟨rfl, rfl⟩ := trodVars_none hV
  obtain ⟨a0, rfl, rfl, rfl, w0⟩ := open_int Try.underlying5 (hval 0 5 v0 rfl rfl) h0
  obtain ⟨a1, rfl, rfl, rfl, w1⟩ := open_int Try.underlying3 (hval 1 3 v1 rfl rfl) h1
  refine (walk a0 a1 W w0 w1).mono fun e W' ⟨he, bel⟩ => ?_
  subst he
  exact ⟨_, rfl, _, _, _, [], _, [], hW', trodAll_mk1 (shut_bool Try.underlying4 _), (trodAll_cons_mk (shut_int Try.underlying5 w0) (trodAll_cons_mk (shut_int Try.underlying3 w1) trodAll_mk0)), rfl, bel.frame _, fun h => by cases h⟩

theorem over : Rows.deflateRunsRow.holds Try.pinned (OpenSpec.ofChange Rows.deflateRunsSpec) :=
  OpenClaim.holds_of_wide 6 Try.f6 rfl rfl rfl rfl rfl rfl rfl ⟨rfl, rfl, rfl, rfl, rfl⟩ rfl rfl rfl rfl rfl (by kernel_rfl) Try.func6 (by kernel_rfl)
    (of_decide_eq_true (by kernel_rfl)) (by unfold Func.isWrapper; first | (rw [if_pos (by decide +kernel)]; kernel_rfl) | (rw [if_neg (by decide +kernel)]; exact ⟨rfl, rfl⟩))
    (fun os started H enc _ => lifted os started H enc)

/-- The statement. -/
theorem proved : Rows.DeflateRunsSaid := over
#print axioms proved
end Go.Proofs.Yteaaoigeopekiaa.deflateRuns
