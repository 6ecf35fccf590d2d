/- The program's statement DeflateSizes holds: for every input it returns true and leaves its arguments as they were. No further condition. -/
import Derived.Test.YteaaoigeopekiaaRows
import Derived.WalkKit
import Derived.ProofKit
import Derived.OpenShut
import Derived.ShutString
import Derived.ChangeOld
import Derived.Below
import Derived.StillTailTactics
import Derived.Deep.RegionHeld3
import Derived.Deep.AppendLies
import Derived.StillTactics
import Derived.Deep.RegionWith
import Derived.WalkSpells
import Derived.Outline
import Derived.Test.YteaaoigeopekiaaWalks
namespace Go.Proofs.Yteaaoigeopekiaa.deflateSizes
open Go.ChangeShapes Go.WideShapes Go.ChangeAt Go.RowKit
open Go.ChangeMaps (open_string shut_string)
set_option linter.unusedVariables false

theorem own : ownKnob Try.prog.godebug = none := by kernel_rfl
theorem laidOut : laidOutB Try.prog = true := by kernel_rfl

/-- A slice of integers that came in: nil, or a row of cells. -/
def IsRow (k : IntKind) (w : World) (a : Option Addr) (len cap : Nat) (zs : List Int) : Prop :=
  (a = none ∧ len = 0 ∧ cap = 0 ∧ zs = []) ∨
  ∃ x, a = some x ∧ len ≤ cap ∧ cap ≤ maxLen ∧ zs.length = cap ∧ (∀ i, i < zs.length → w.cell? (x.add i) = some (.int k (zs.getD i 0))) ∧ ∀ n ∈ zs, (Lit.int k n).wf = true

/-! ### The walk -/
set_option maxHeartbeats 4000000 in
theorem walk (a0 : Int) (a1 : Int) (w : World) (w0 : (Lit.int .i64 a0).wf = true) (w1 : (Lit.int .u8 a1).wf = true) :
    Calls Try.prog 7 #[.int .i64 a0, .int .u8 a1] w fun e w' => e = .returned (.bool true) ∧ Below w.heap.size w w' := by
  have h0 : -9223372036854775808 ≤ a0 ∧ a0 ≤ 9223372036854775807 := by simpa [Lit.wf, IntKind.min, IntKind.max, IntKind.signed, IntKind.bits] using w0
  have h1 : 0 ≤ a1 ∧ a1 ≤ 255 := by simpa [Lit.wf, IntKind.min, IntKind.max, IntKind.signed, IntKind.bits] using w1
  clear w0 w1
  obtain ⟨n, hn, en⟩ : ∃ n : Nat, n < 200000 ∧ wrap64 ((IntKind.u64.wrap a0).tmod 200000) = (n : Int) := by
    rw [IntKind.wrap_u64, Int.tmod_eq_emod_of_nonneg (by omega), IntWalk.wrap64_in _ (by omega)]
    exact ⟨(a0 % 18446744073709551616 % 200000).toNat, by omega, by omega⟩
  obtain ⟨m, hm, em⟩ : ∃ m : Nat, m ≤ 17 ∧ max 1 (((n : Int) + 65535 - 1) / 65535) = (m : Int) := ⟨(max 1 (((n : Int) + 65535 - 1) / 65535)).toNat, by omega, by omega⟩
  have hmax : ∀ W : World, Sem.run Try.prog (Builtin.max_ #[3, 3] 3 #[.int .i64 1, .int .i64 (((n : Int) + 65534) / 65535)]) W = .ok (.int .i64 (m : Int)) W := fun W => by
    rw [run_max2, show (((n : Int) + 65534) / 65535) = ((n : Int) + 65535 - 1) / 65535 by omega, em]
  have EM : Hid (max 1 (((n : Int) + 65535 - 1) / 65535) = (m : Int)) := em
  clear em
  have hmk := make_zs n (by omega)
  go_enter Try.func7, Try.ntmps7
  go_wp2_with fail
  rw [en]
  have EN : Hid (wrap64 ((IntKind.u64.wrap a0).tmod 200000) = (n : Int)) := en
  clear en hmk
  have O1 : Own (w.alloc (.cells (Zs n) 5)) w.heap.size (.slice (some ⟨w.heap.size, 0, none⟩) n n) n (List.replicate n 0) :=
    ⟨by simp, .inr ⟨w.heap.size, n, Zs n, rfl, Nat.le_refl _, by show (w.heap.push _)[w.heap.size]? = _; simp, Nat.le_refl _, by unfold maxLen; omega, by simp [Zs], by simp [Zs]⟩⟩
  go_loopw [6] (fun i wr => ∃ (k : Nat) (xs : List Int), k ≤ n ∧ i = .int .i64 k ∧ (∀ j : Nat, 0 ≤ xs[j]?.getD 0 ∧ xs[j]?.getD 0 ≤ 255) ∧ Own wr w.heap.size (.slice (some ⟨w.heap.size, 0, none⟩) n n) n xs ∧ Below w.heap.size w wr) (fun i _ => n - (intOf i).toNat)
  case atStart => exact ⟨0, _, by omega, rfl, fun j => by
    by_cases hj : j < n
    · rw [List.getElem?_replicate, if_pos hj]; simp
    · rw [List.getElem?_eq_none (by simp; omega)]; simp, O1, (Below.refl _ _).alloc (Nat.le_refl _) _⟩
  case round =>
    obtain ⟨k, xs, hk, rfl, hx, hown, hbel⟩ := hrel
    have HX : Hid (∀ j : Nat, 0 ≤ xs[j]?.getD 0 ∧ xs[j]?.getD 0 ≤ 255) := hx
    have HO : Hid (Own wr w.heap.size (.slice (some ⟨w.heap.size, 0, none⟩) n n) n xs) := hown
    clear hx hown O1
    by_cases hlt : k < n
    · have cc := HO.out.cell k hlt
      have cf := HO.out.free k
      have f1 : (k : Int) < (n : Int) := by omega
      go_wp2_with fail
      go_roundw
      case rel => exact ⟨k + 1, xs.set k a1, by omega, by go_num, fun j => by
        rw [List.getElem?_set]
        split
        · split
          · exact h1
          · simp
        · exact HX.out j, HO.out.stored k a1, hbel.setCell (Nat.le_refl _) _⟩
      case measure => simp [intOf]; omega
    · obtain rfl : k = n := by omega
      have HB : Hid (Bytes wr (some ⟨w.heap.size, 0, none⟩) k xs) := HO.out.bytes HX.out
      go_wp2_with fail
      refine (known_any wr).mono ?_
      rintro e w2 ⟨rfl, hb2⟩
      go_wp2_with fail
      refine (stored_any _ k k xs w2 (Nat.le_refl _) (by omega) (by omega) (fun e => by cases e) (HB.out.below hb2) m EM.out).mono ?_
      rintro e w3 ⟨⟨a', c, rfl⟩, hb3⟩
      go_wp2_with fail
      go_ret
      exact ⟨by simp, (hbel.trans (hb2.mono hbel.size)).trans (hb3.mono (Nat.le_trans hbel.size hb2.size))⟩

/-! ### The row's step -/
set_option maxRecDepth 100000 in
theorem lifted (os : Os) (started : os.Started) (H : Type) (enc : TypeId × Value → H) :
    ReturnsInHanded {} Try.checked os 7 .any (Rows.deflateSizesSpec.pre6 enc Try.prog Try.f7 Rows.deflateSizesRow.domain false) (Rows.deflateSizesSpec.post enc Try.prog Try.f7 false true false false) := by
  refine returnsInHanded_of_change (C := Try.checked) own started (by kernel_rfl) Try.func7
    (ChangeSpec.witness6 (enc := enc) (C := Try.checked) false ⟨#[], #[.int .i64 0, .int .u8 0], []⟩ 8 (by kernel_rfl) (by kernel_rfl) (by kernel_rfl) (by kernel_rfl)) ?_
  intro W base args ds gs before hval0 hW hcnd _
  have hval : ∀ (j : Nat) t v, Try.f7.params[j]? = some t → args[j]? = some v → Value.okWide Try.prog W .any base t v := hval0
  have hW' := hW
  obtain ⟨p, q, hA0, hV, rfl, hfz, hnd⟩ := hW
  have hA : DataW.TrodAll enc Try.prog W 0 (fun _ => true) true Try.f7.params.toList args.toList ds p := hA0
  rw [Try.params7] at hA hval
  obtain ⟨v0, vs0, d0, ds0, p0, q0, hargs, rfl, rfl, h0, r0⟩ := trodAll_cons hA
  obtain ⟨v1, vs1, d1, ds1, p1, q1, rfl, rfl, rfl, h1, r1⟩ := trodAll_cons r0
  obtain ⟨rfl, rfl, rfl⟩ := trodAll_nil r1
  obtain rfl : args = #[v0, v1] := by cases args; simp_all
  obtain ⟨rfl, rfl⟩ := trodVars_none hV
  obtain ⟨a0, rfl, rfl, rfl, w0⟩ := open_int Try.underlying3 (hval 0 3 v0 rfl rfl) h0
  obtain ⟨a1, rfl, rfl, rfl, w1⟩ := open_int Try.underlying5 (hval 1 5 v1 rfl rfl) h1
  refine (walk a0 a1 W w0 w1).mono fun e W' ⟨he, bel⟩ => ?_
  subst he
  exact ⟨_, rfl, _, _, _, [], _, [], hW', trodAll_mk1 (shut_bool Try.underlying4 _), (trodAll_cons_mk (shut_int Try.underlying3 w0) (trodAll_cons_mk (shut_int Try.underlying5 w1) trodAll_mk0)), rfl, bel.frame _, fun h => by cases h⟩

theorem over : Rows.deflateSizesRow.holds Try.pinned (OpenSpec.ofChange Rows.deflateSizesSpec) :=
  OpenClaim.holds_of_wide 7 Try.f7 rfl rfl rfl rfl rfl rfl rfl ⟨rfl, rfl, rfl, rfl, rfl⟩ rfl rfl rfl rfl rfl (by kernel_rfl) Try.func7 (by kernel_rfl)
    (of_decide_eq_true (by kernel_rfl)) (by unfold Func.isWrapper; first | (rw [if_pos (by decide +kernel)]; kernel_rfl) | (rw [if_neg (by decide +kernel)]; exact ⟨rfl, rfl⟩))
    (fun os started H enc _ => lifted os started H enc)

/-- The statement. -/
theorem proved : Rows.DeflateSizesSaid := over
#print axioms proved
end Go.Proofs.Yteaaoigeopekiaa.deflateSizes
