/- The program's statement ShaLong holds: for every input it returns true and leaves its arguments as they were. No further condition. -/
import Derived.Test.YtcajcnceomimhaaRows
import Derived.WalkKit
import Derived.ProofKit
import Derived.OpenShut
import Derived.ShutString
import Derived.ChangeOld
import Derived.Below
import Derived.StillTailTactics
import Derived.Deep.RegionHeld3
import Derived.Deep.AppendLies
import Derived.StillTactics
import Derived.Deep.RegionWith
import Derived.WalkSpells
import Derived.Outline
import Derived.Test.YtcajcnceomimhaaRefSum
namespace Go.Proofs.Ytcajcnceomimhaa.shaLong
open Go.ChangeShapes Go.WideShapes Go.ChangeAt Go.RowKit
open Go.ChangeMaps (open_string shut_string)
set_option linter.unusedVariables false

theorem own : ownKnob Try.prog.godebug = none := by kernel_rfl
theorem laidOut : laidOutB Try.prog = true := by kernel_rfl

/-- A slice of integers that came in: nil, or a row of cells. -/
def IsRow (k : IntKind) (w : World) (a : Option Addr) (len cap : Nat) (zs : List Int) : Prop :=
  (a = none ∧ len = 0 ∧ cap = 0 ∧ zs = []) ∨
  ∃ x, a = some x ∧ len ≤ cap ∧ cap ≤ maxLen ∧ zs.length = cap ∧ (∀ i, i < zs.length → w.cell? (x.add i) = some (.int k (zs.getD i 0))) ∧ ∀ n ∈ zs, (Lit.int k n).wf = true
theorem eq_self24 (s : Plain.Five) (w : World) : (Op.equalIn 10000 24 (.agg (idTo s 20)) (.agg (idTo s 20))).run Try.prog w = .ok true w := by
  rw [idTo_tbs, run_equalIn_arr w 24 20 Try.underlying24 _ _ (tbs_length s) (tbs_length s)]
  simp
/-! ### The walk -/
set_option maxRecDepth 100000 in
set_option maxHeartbeats 8000000 in
theorem walk (a0 : Int) (a1 : Int) (w : World) (w0 : (Lit.int .i64 a0).wf = true) (w1 : (Lit.int .u8 a1).wf = true) :
    Calls Try.prog 6 #[.int .i64 a0, .int .u8 a1] w fun e w' => e = .returned (.bool true) ∧ Below w.heap.size w w' := by
  have h0 : -9223372036854775808 ≤ a0 ∧ a0 ≤ 9223372036854775807 := by simpa [Lit.wf, IntKind.min, IntKind.max, IntKind.signed, IntKind.bits] using w0
  have h1 : 0 ≤ a1 ∧ a1 ≤ 255 := by simpa [Lit.wf, IntKind.min, IntKind.max, IntKind.signed, IntKind.bits] using w1
  clear w0 w1
  have HA1 : Hid (0 ≤ a1 ∧ a1 ≤ 255) := h1
  go_enter Try.func6, Try.ntmps6
  go_wp2_with fail
  obtain ⟨k, hk, ek⟩ : ∃ k : Nat, k < 400 ∧ wrap64 ((IntKind.u64.wrap a0).tmod 400) = (k : Int) := by
    rw [IntKind.wrap_u64, Int.tmod_eq_emod_of_nonneg (by omega), IntWalk.wrap64_in _ (by omega)]
    exact ⟨(a0 % 18446744073709551616 % 400).toNat, by omega, by omega⟩
  rw [ek]
  generalize wrap64 ((IntKind.u64.wrap a0).tmod 400) = ki at *
  clear h0 ek
  go_loopw [5, 6] (fun v i wr => ∃ (j c : Nat) (a : Option Addr), j ≤ k ∧ i = .int .i64 (j : Int) ∧ v = .slice a j c ∧ Own wr w.heap.size (.slice a j c) j (List.replicate j a1) ∧ Below w.heap.size w wr) (fun _ i _ => 400 - (intOf i).toNat)
  case atStart => exact ⟨0, 0, none, by omega, rfl, rfl, ⟨rfl, .inl ⟨rfl, rfl⟩⟩, Below.refl _ _⟩
  case round =>
    obtain ⟨j, c, a, hj, rfl, rfl, hown, hbel⟩ := hrel
    have HO : Hid (Own wr w.heap.size (.slice a j c) j (List.replicate j a1)) := hown
    have HBE : Hid (Below w.heap.size w wr) := hbel
    have HN : Hid (w.heap.size ≤ wr.heap.size) := hbel.size
    have HREP : Hid (List.replicate j a1 ++ [a1] = List.replicate (j + 1) a1) := by show _ = _; rw [List.replicate_succ']
    clear hown hbel
    by_cases hlt : j < k
    · have hlt' : (j : Int) < k := by omega
      go_wp2_with (
        at_builtin
        refine wpList_append_bytes rfl _ _ rfl w.heap.size _ j (List.replicate j a1) rfl (HO.out.below ((Below.refl _ _).alloc (Nat.le_refl _) _)) _ 1 1 [a1] rfl (Bytes.lit wr wr.heap.size rfl [a1] 5 (0, 0) 1 rfl (by omega) (by simpa using HA1.out)) (fun e => by cases e) (by omega) (by have := HN.out; simp; omega) ?_
        intro v3 w3 hown3 hg3
        have HK3 : Hid (Below w.heap.size w w3) := HBE.out.trans (((Below.refl _ _).alloc HN.out _).trans ((HO.out.below ((Below.refl _ _).alloc (Nat.le_refl _) _)).kept (by have := HN.out; simp; omega) hg3))
        rw [HREP.out] at hown3
        clear hg3
        obtain ⟨a3, c3, rfl, -, -, -⟩ := hown3.shape)
      exact ⟨⟨j + 1, c3, a3, by omega, by go_num, rfl, hown3, HK3.out⟩, by simp [intOf]; omega⟩
    · obtain rfl : j = k := by omega
      have hxs : ∀ p : Nat, 0 ≤ (List.replicate j a1)[p]?.getD 0 ∧ (List.replicate j a1)[p]?.getD 0 ≤ 255 := getD_bytes _ (fun x hx => by rw [(List.mem_replicate.1 hx).2]; exact HA1.out)
      have HB : Hid (Bytes wr a j (List.replicate j a1)) := HO.out.bytes hxs
      have hshape : j ≤ c ∧ (a = none → c = 0) := by
        obtain ⟨a', c', e, h1, h2, -⟩ := HO.out.shape
        simp only [Value.slice.injEq, true_and] at e
        obtain ⟨rfl, rfl⟩ := e
        exact ⟨h1, h2⟩
      have HNIL : Hid (a = none → c = 0) := hshape.2
      have hjc := hshape.1
      generalize List.replicate j a1 = xs at *
      have HES : Hid (∀ W, (Op.equalIn 10000 24 (.agg (idTo (sumOf xs) 20)) (.agg (idTo (sumOf xs) 20))).run Try.prog W = .ok true W) := fun W => eq_self24 _ W
      clear hxs hshape HO HREP hlt hj
      go_wp2_with fail
      refine (known_any wr).mono ?_
      rintro e w3 ⟨rfl, hb3⟩
      have HB3 : Hid (Below wr.heap.size wr w3) := hb3
      clear hb3
      go_wp2_with fail
      refine (sum_one a j c xs w3 hjc (by omega) (HB.out.below HB3.out)).mono ?_
      rintro e w4 ⟨rfl, hb4⟩
      have HB4 : Hid (Below wr.heap.size wr w4) := HB3.out.trans (hb4.mono HB3.out.size)
      clear hb4
      go_wp2_with fail
      refine (refSum_any a j c xs w4 (by omega) HNIL.out (HB.out.below HB4.out)).mono ?_
      rintro e w5 ⟨rfl, hb5⟩
      have HB5 : Hid (Below w.heap.size w w5) := HBE.out.trans ((HB4.out.trans (hb5.mono HB4.out.size)).mono HBE.out.size)
      clear hb5
      have he := HES.out w5
      go_wp2_with fail
      go_ret
      exact ⟨rfl, HB5.out⟩

/-! ### The row's step -/
set_option maxRecDepth 100000 in
theorem lifted (os : Os) (started : os.Started) (H : Type) (enc : TypeId × Value → H) :
    ReturnsInHanded {} Try.checked os 6 .any (Rows.shaLongSpec.pre6 enc Try.prog Try.f6 Rows.shaLongRow.domain false) (Rows.shaLongSpec.post enc Try.prog Try.f6 false true false false) := by
  refine returnsInHanded_of_change (C := Try.checked) own started (by kernel_rfl) Try.func6
    (ChangeSpec.witness6 (enc := enc) (C := Try.checked) false ⟨#[], #[.int .i64 0, .int .u8 0], []⟩ 8 (by kernel_rfl) (by kernel_rfl) (by kernel_rfl) (by kernel_rfl)) ?_
  intro W base args ds gs before hval0 hW hcnd _
  have hval : ∀ (j : Nat) t v, Try.f6.params[j]? = some t → args[j]? = some v → Value.okWide Try.prog W .any base t v := hval0
  have hW' := hW
  obtain ⟨p, q, hA0, hV, rfl, hfz, hnd⟩ := hW
  have hA : DataW.TrodAll enc Try.prog W 0 (fun _ => true) true Try.f6.params.toList args.toList ds p := hA0
  rw [Try.params6] at hA hval
  obtain ⟨v0, vs0, d0, ds0, p0, q0, hargs, rfl, rfl, h0, r0⟩ := trodAll_cons hA
  obtain ⟨v1, vs1, d1, ds1, p1, q1, rfl, rfl, rfl, h1, r1⟩ := trodAll_cons r0
  obtain ⟨rfl, rfl, rfl⟩ := trodAll_nil r1
  obtain rfl : args = #[v0, v1] := by cases args; simp_all
  obtain ⟨rfl, rfl⟩ := trodVars_none hV
  obtain ⟨a0, rfl, rfl, rfl, w0⟩ := open_int Try.underlying3 (hval 0 3 v0 rfl rfl) h0
  obtain ⟨a1, rfl, rfl, rfl, w1⟩ := open_int Try.underlying5 (hval 1 5 v1 rfl rfl) h1
  refine (walk a0 a1 W w0 w1).mono fun e W' ⟨he, bel⟩ => ?_
  subst he
  exact ⟨_, rfl, _, _, _, [], _, [], hW', trodAll_mk1 (shut_bool Try.underlying4 _), (trodAll_cons_mk (shut_int Try.underlying3 w0) (trodAll_cons_mk (shut_int Try.underlying5 w1) trodAll_mk0)), rfl, bel.frame _, fun h => by cases h⟩

theorem over : Rows.shaLongRow.holds Try.pinned (OpenSpec.ofChange Rows.shaLongSpec) :=
  OpenClaim.holds_of_wide 6 Try.f6 rfl rfl rfl rfl rfl rfl rfl ⟨rfl, rfl, rfl, rfl, rfl⟩ rfl rfl rfl rfl rfl (by kernel_rfl) Try.func6 (by kernel_rfl)
    (of_decide_eq_true (by kernel_rfl)) (by unfold Func.isWrapper; first | (rw [if_pos (by decide +kernel)]; kernel_rfl) | (rw [if_neg (by decide +kernel)]; exact ⟨rfl, rfl⟩))
    (fun os started H enc _ => lifted os started H enc)

/-- The statement. -/
theorem proved : Rows.ShaLongSaid := over
#print axioms proved
end Go.Proofs.Ytcajcnceomimhaa.shaLong
