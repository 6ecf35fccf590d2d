/- The program's statement ZlibOpens holds: for every input it returns true and leaves its arguments as they were. No further condition. -/
import Derived.Test.YtmdgpabmknigmaaRows
import Derived.WalkKit
import Derived.ProofKit
import Derived.OpenShut
import Derived.ShutString
import Derived.ChangeOld
import Derived.Below
import Derived.StillTailTactics
import Derived.Deep.RegionHeld3
import Derived.Deep.AppendLies
import Derived.StillTactics
import Derived.Deep.RegionWith
import Derived.WalkSpells
import Derived.Outline
import Derived.Test.YtmdgpabmknigmaaRefOpen
import Derived.Test.YtmdgpabmknigmaaZC
namespace Go.Proofs.Ytmdgpabmknigmaa.zlibOpens
open Go.ChangeShapes Go.WideShapes Go.ChangeAt Go.RowKit
open Go.ChangeMaps (open_string shut_string)
set_option linter.unusedVariables false

theorem own : ownKnob Try.prog.godebug = none := by kernel_rfl
theorem laidOut : laidOutB Try.prog = true := by kernel_rfl

/-- A slice of integers that came in: nil, or a row of cells. -/
def IsRow (k : IntKind) (w : World) (a : Option Addr) (len cap : Nat) (zs : List Int) : Prop :=
  (a = none ∧ len = 0 ∧ cap = 0 ∧ zs = []) ∨
  ∃ x, a = some x ∧ len ≤ cap ∧ cap ≤ maxLen ∧ zs.length = cap ∧ (∀ i, i < zs.length → w.cell? (x.add i) = some (.int k (zs.getD i 0))) ∧ ∀ n ∈ zs, (Lit.int k n).wf = true
open Plain
/-! ### The walk -/
set_option maxRecDepth 100000 in
set_option maxHeartbeats 16000000 in
theorem walk (a0 : Option Addr) (len0 cap0 : Nat) (z0 : List Int) (a1 : Int) (w : World) (w0 : IsRow .u8 w a0 len0 cap0 z0) (w1 : (Lit.int .i64 a1).wf = true) :
    Calls Try.prog 5 #[.slice a0 len0 cap0, .int .i64 a1] w fun e w' => e = .returned (.bool true) ∧ Below w.heap.size w w' := by
  obtain ⟨hr0, hlc0, hcm0⟩ := row_in w0 600
  obtain ⟨m0, hm0⟩ : ∃ m, min len0 600 = m := ⟨_, rfl⟩
  have k0 : m0 ≤ 600 := by omega
  have kc : m0 ≤ cap0 := by omega
  have hmin : ∀ W : World, Sem.run Try.prog (Builtin.min_ #[3, 3] 3 #[.int .i64 (len0 : Int), .int .i64 600]) W = .ok (.int .i64 (m0 : Int)) W := fun W => by
    rw [run_min2, show min (len0 : Int) 600 = (m0 : Int) by omega]
  obtain ⟨M, hM⟩ : ∃ M, min a1 3000 = M := ⟨_, rfl⟩
  have kM : M ≤ 3000 := by omega
  have hmin1 : ∀ W : World, Sem.run Try.prog (Builtin.min_ #[3, 3] 3 #[.int .i64 a1, .int .i64 3000]) W = .ok (.int .i64 M) W := fun W => by
    rw [run_min2, hM]
  rw [hm0] at hr0
  have R0 := Lib.hid hr0
  clear w0 w1 hr0 hm0 hM
  generalize (z0.take len0).take 600 = x0 at *
  have t0 := text_run w a0 m0 cap0 x0 R0.out.bytes
  go_enter Try.func5, Try.ntmps5
  go_wp2_with fail
  clear t0 hmin hmin1
  refine (open_any a0 m0 cap0 x0 M M.toNat w R0.out (by omega) rfl (by omega)).mono ?_
  rintro e w2 (⟨q, m, ya, yc, hr, rfl, hrow, hmm, hb, -⟩ | ⟨k, hr, hk, rfl, hb⟩)
  · have R2 := Lib.hid (R0.out.below hb)
    have HY := Lib.hid hrow
    have HB := Lib.hid hb
    have HR := Lib.hid hr
    clear hr hrow hb
    go_wp2_with fail
    refine (refOpen_any a0 m0 cap0 x0 M M.toNat w2 R2.out (by omega) rfl (by omega)).mono ?_
    rintro e w3 (⟨q', m', za, zc, hr, rfl, hrow, -, hb, -⟩ | ⟨k', hr, hk', rfl, hb⟩)
    · rw [HR.out] at hr
      injection hr with hr
      injection hr with h1 h2
      subst h1 h2
      have R3 := Lib.hid (R2.out.below hb)
      have HZ := Lib.hid hrow
      have HY3 := Lib.hid (HY.out.below hb)
      have HB3 : Hid (Below w.heap.size w w3) := HB.out.trans (hb.mono HB.out.size)
      clear hrow hb HY R2
      go_wp2_with fail
      refine (known_any w3).mono ?_
      rintro e w4 ⟨rfl, hb4⟩
      have t1 := text_run w4 ya m.length yc m (HY3.out.below hb4).bytes
      have t2 := text_run w4 za m.length zc m (HZ.out.below hb4).bytes
      have t3 := text_run w4 a0 m0 cap0 x0 (R3.out.below hb4).bytes
      have HB4 : Hid (Below w.heap.size w w4) := HB3.out.trans (hb4.mono HB3.out.size)
      clear hb4 HY3 HZ HB3
      go_wp2_with fail
      go_ret
      exact ⟨rfl, HB4.out⟩
    · rw [HR.out] at hr; cases hr
  · have R2 := Lib.hid (R0.out.below hb)
    have HB := Lib.hid hb
    have HR := Lib.hid hr
    clear hr hb
    go_wp2_with fail
    refine (refOpen_any a0 m0 cap0 x0 M M.toNat w2 R2.out (by omega) rfl (by omega)).mono ?_
    rintro e w3 (⟨q', m', za, zc, hr, rfl, hrow, -, hb, -⟩ | ⟨k', hr, hk', rfl, hb⟩)
    · rw [HR.out] at hr; cases hr
    · rw [HR.out] at hr
      injection hr with h1
      subst h1
      have R3 := Lib.hid (R2.out.below hb)
      have HB3 : Hid (Below w.heap.size w w3) := HB.out.trans (hb.mono HB.out.size)
      clear hb R2
      go_wp2_with fail
      refine (known_any w3).mono ?_
      rintro e w4 ⟨rfl, hb4⟩
      have t1 := text_run w4 none 0 0 [] ⟨rfl, by omega, by simp, .inl rfl⟩
      have t3 := text_run w4 a0 m0 cap0 x0 (R3.out.below hb4).bytes
      have HB4 : Hid (Below w.heap.size w w4) := HB3.out.trans (hb4.mono HB3.out.size)
      clear hb4 HB3
      go_wp2_with fail
      go_ret
      exact ⟨rfl, HB4.out⟩

/-! ### The row's step -/
set_option maxRecDepth 100000 in
theorem lifted (os : Os) (started : os.Started) (H : Type) (enc : TypeId × Value → H) :
    ReturnsInHanded {} Try.checked os 5 .any (Rows.zlibOpensSpec.pre6 enc Try.prog Try.f5 Rows.zlibOpensRow.domain false) (Rows.zlibOpensSpec.post enc Try.prog Try.f5 false true false false) := by
  refine returnsInHanded_of_change (C := Try.checked) own started (by kernel_rfl) Try.func5
    (ChangeSpec.witness6 (enc := enc) (C := Try.checked) false ⟨#[], #[.slice none 0 0, .int .i64 0], []⟩ 8 (by kernel_rfl) (by kernel_rfl) (by kernel_rfl) (by kernel_rfl)) ?_
  intro W base args ds gs before hval0 hW hcnd _
  have hval : ∀ (j : Nat) t v, Try.f5.params[j]? = some t → args[j]? = some v → Value.okWide Try.prog W .any base t v := hval0
  have hW' := hW
  obtain ⟨p, q, hA0, hV, rfl, hfz, hnd⟩ := hW
  have hA : DataW.TrodAll enc Try.prog W 0 (fun _ => true) true Try.f5.params.toList args.toList ds p := hA0
  rw [Try.params5] at hA hval
  obtain ⟨v0, vs0, d0, ds0, p0, q0, hargs, rfl, rfl, h0, r0⟩ := trodAll_cons hA
  obtain ⟨v1, vs1, d1, ds1, p1, q1, rfl, rfl, rfl, h1, r1⟩ := trodAll_cons r0
  obtain ⟨rfl, rfl, rfl⟩ := trodAll_nil r1
  obtain rfl : args = #[v0, v1] := by cases args; simp_all
  obtain ⟨rfl, rfl⟩ := trodVars_none hV
  obtain ⟨a0, len0, cap0, rfl⟩ := okWide_slice Try.underlying22 (hval 0 22 v0 rfl rfl)
  have k0 := h0
  have lt0 : ∀ x ∈ p0, x.block < W.heap.size := by obtain ⟨m, hm⟩ := k0; exact DataW.trod_lt m _ _ _ hm
  obtain ⟨z0, w0⟩ : ∃ zs, IsRow .u8 W a0 len0 cap0 zs := by
    obtain ⟨fuel, hf⟩ := h0
    rcases open_ints Try.underlying22 Try.underlying5 (by kernel_rfl) hf with ⟨hcs, _⟩ | ⟨x, l, c, zs, hcs, _, hl, hm, hz, _, hcell, hwz⟩
    · simp [Value.cells] at hcs
      obtain ⟨rfl, rfl, rfl⟩ := hcs
      exact ⟨[], .inl ⟨rfl, rfl, rfl, rfl⟩⟩
    · simp [Value.cells] at hcs
      obtain ⟨rfl, rfl, rfl⟩ := hcs
      exact ⟨zs, .inr ⟨_, rfl, hl, hm, by simpa using hz, hcell, hwz⟩⟩
  obtain ⟨a1, rfl, rfl, rfl, w1⟩ := open_int Try.underlying3 (hval 1 3 v1 rfl rfl) h1
  refine (walk a0 len0 cap0 z0 a1 W w0 w1).mono fun e W' ⟨he, bel⟩ => ?_
  subst he
  exact ⟨_, rfl, _, _, _, [], _, [], hW', trodAll_mk1 (shut_bool Try.underlying4 _), (trodAll_cons_mk (Below.trod laidOut (by kernel_rfl) (of_decide_eq_true (by kernel_rfl)) k0 bel lt0) (trodAll_cons_mk (shut_int Try.underlying3 w1) trodAll_mk0)), rfl, bel.frame _, fun h => by cases h⟩

theorem over : Rows.zlibOpensRow.holds Try.pinned (OpenSpec.ofChange Rows.zlibOpensSpec) :=
  OpenClaim.holds_of_wide 5 Try.f5 rfl rfl rfl rfl rfl rfl rfl ⟨rfl, rfl, rfl, rfl, rfl⟩ rfl rfl rfl rfl rfl (by kernel_rfl) Try.func5 (by kernel_rfl)
    (of_decide_eq_true (by kernel_rfl)) (by unfold Func.isWrapper; first | (rw [if_pos (by decide +kernel)]; kernel_rfl) | (rw [if_neg (by decide +kernel)]; exact ⟨rfl, rfl⟩))
    (fun os started H enc _ => lifted os started H enc)

/-- The statement. -/
theorem proved : Rows.ZlibOpensSaid := over
#print axioms proved
end Go.Proofs.Ytmdgpabmknigmaa.zlibOpens
