/- The program's statement DeflateBack holds: for every input it returns true and leaves its arguments as they were. No further condition. -/
import Derived.Test.YtmdgpabmknigmaaRows
import Derived.WalkKit
import Derived.ProofKit
import Derived.OpenShut
import Derived.ShutString
import Derived.ChangeOld
import Derived.Below
import Derived.StillTailTactics
import Derived.Deep.RegionHeld3
import Derived.Deep.AppendLies
import Derived.StillTactics
import Derived.Deep.RegionWith
import Derived.WalkSpells
import Derived.Outline
import Derived.Test.YtmdgpabmknigmaaPackRaw
import Derived.Test.YtmdgpabmknigmaaRefRaw
import Derived.Test.YtmdgpabmknigmaaFew4
import Derived.Test.YtmdgpabmknigmaaWalks
namespace Go.Proofs.Ytmdgpabmknigmaa.deflateBack
open Go.ChangeShapes Go.WideShapes Go.ChangeAt Go.RowKit
open Go.ChangeMaps (open_string shut_string)
set_option linter.unusedVariables false

theorem own : ownKnob Try.prog.godebug = none := by kernel_rfl
theorem laidOut : laidOutB Try.prog = true := by kernel_rfl

/-- A slice of integers that came in: nil, or a row of cells. -/
def IsRow (k : IntKind) (w : World) (a : Option Addr) (len cap : Nat) (zs : List Int) : Prop :=
  (a = none ∧ len = 0 ∧ cap = 0 ∧ zs = []) ∨
  ∃ x, a = some x ∧ len ≤ cap ∧ cap ≤ maxLen ∧ zs.length = cap ∧ (∀ i, i < zs.length → w.cell? (x.add i) = some (.int k (zs.getD i 0))) ∧ ∀ n ∈ zs, (Lit.int k n).wf = true
open Plain
/-! ### The walk -/
set_option maxRecDepth 100000 in
set_option maxHeartbeats 16000000 in
theorem walk (a0 : Option Addr) (len0 cap0 : Nat) (z0 : List Int) (a1 : Int) (w : World) (w0 : IsRow .u8 w a0 len0 cap0 z0) (w1 : (Lit.int .i64 a1).wf = true) :
    Calls Try.prog 4 #[.slice a0 len0 cap0, .int .i64 a1] w fun e w' => e = .returned (.bool true) ∧ Below w.heap.size w w' := by
  obtain ⟨hb0, hlc0, hcm0⟩ := bytes_of w0
  have HN0 : Hid (a0 = none → cap0 = 0) := by
    rcases w0 with ⟨-, -, h, -⟩ | ⟨x, rfl, -⟩
    · exact fun _ => h
    · exact fun e => by cases e
  have R0 : Hid (RowB w a0 len0 cap0 (z0.take len0)) := ⟨hlc0, hcm0, HN0.out, hb0⟩
  clear w0 w1 hb0 HN0
  go_enter Try.func4, Try.ntmps4
  go_wp2_with fail
  refine (few_any w a0 len0 cap0 _ a1 R0.out).mono ?_
  rintro e wf ⟨⟨va, vc, n, xs, rfl, hm, hx, hn⟩, hb⟩
  have HR := Lib.hid (hm.row (range_of_mem0 hx))
  have HB := Lib.hid hb
  have hxl : xs.length = n := hm.1
  obtain ⟨q, hq1, hq2⟩ := rawPack_back (most := n) hx (by omega) (by omega)
  have HXL := Lib.hid hxl
  have HPK := Lib.hid (fun W (h : RowB W va n vc xs) => rawPack_any va n vc xs W h (by omega))
  have hpl9 := rawPack_le xs (by omega)
  have hn2 : n ≤ 2400 := hn
  obtain ⟨P, hP⟩ : ∃ P, rawPack xs = P := ⟨_, rfl⟩
  rw [hP] at hq1 hq2 hpl9 HPK
  obtain ⟨pl, hpl⟩ : ∃ pl, P.length = pl := ⟨_, rfl⟩
  rw [hpl] at hq2 hpl9 HPK
  rw [hxl] at hpl9
  have hpl10 : pl ≤ 10000 := by omega
  have HQ1 := Lib.hid hq1
  have HQ2 := Lib.hid hq2
  have t0 := text_run wf va n vc xs HR.out.bytes
  clear hm hx hb hq1 hq2 hP hpl R0 hn hxl hpl9
  go_wp2_with fail
  clear t0
  refine (HPK.out wf HR.out).mono ?_
  rintro e w2 ⟨⟨pa, pc, rfl, hrow⟩, hb⟩
  have HP := Lib.hid hrow
  have HR2 := Lib.hid (HR.out.below hb)
  have HB2 : Hid (Below w.heap.size w w2) := HB.out.trans (hb.mono HB.out.size)
  clear hrow hb HPK HR HB
  go_wp2_with fail
  refine (raw_row pa pl pc P (n : Int) n w2 HP.out (by omega) rfl (by omega)).mono ?_
  rintro e w3 (⟨q', m', ya, yc, hr, rfl, hrow, -, hb, -⟩ | ⟨k', hr, hk', rfl, hb⟩)
  rotate_left
  · rw [HQ1.out] at hr; cases hr
  rw [HQ1.out] at hr
  injection hr with hr
  injection hr with h1 h2
  subst h1 h2
  rw [HQ2.out]
  rw [HXL.out] at hrow ⊢
  have HY := Lib.hid hrow
  have HP3 := Lib.hid (HP.out.below hb)
  have HR3 := Lib.hid (HR2.out.below hb)
  have HB3 : Hid (Below w.heap.size w w3) := HB2.out.trans (hb.mono HB2.out.size)
  clear hrow hb HR2 HP HB2
  go_wp2_with fail
  refine (rraw_row pa pl pc P (n : Int) n w3 HP3.out (by omega) rfl (by omega)).mono ?_
  rintro e w4 (⟨q', m', za, zc, hr, rfl, hrow, -, hb, -⟩ | ⟨k', hr, hk', rfl, hb⟩)
  rotate_left
  · rw [HQ1.out] at hr; cases hr
  rw [HQ1.out] at hr
  injection hr with hr
  injection hr with h1 h2
  subst h1 h2
  rw [HQ2.out]
  rw [HXL.out] at hrow ⊢
  have HZ := Lib.hid hrow
  have HY4 := Lib.hid (HY.out.below hb)
  have HR4 := Lib.hid (HR3.out.below hb)
  have HB4 : Hid (Below w.heap.size w w4) := HB3.out.trans (hb.mono HB3.out.size)
  clear hrow hb HR3 HP3 HY HB3
  go_wp2_with fail
  refine (known_any w4).mono ?_
  rintro e w5 ⟨rfl, hb⟩
  have t1 := text_run w5 ya n yc xs (HY4.out.below hb).bytes
  have t2 := text_run w5 za n zc xs (HZ.out.below hb).bytes
  have t3 := text_run w5 va n vc xs (HR4.out.below hb).bytes
  have HB5 : Hid (Below w.heap.size w w5) := HB4.out.trans (hb.mono HB4.out.size)
  clear hb HY4 HZ HR4 HB4
  go_wp2_with fail
  go_ret
  exact ⟨rfl, HB5.out⟩

/-! ### The row's step -/
set_option maxRecDepth 100000 in
theorem lifted (os : Os) (started : os.Started) (H : Type) (enc : TypeId × Value → H) :
    ReturnsInHanded {} Try.checked os 4 .any (Rows.deflateBackSpec.pre6 enc Try.prog Try.f4 Rows.deflateBackRow.domain false) (Rows.deflateBackSpec.post enc Try.prog Try.f4 false true false false) := by
  refine returnsInHanded_of_change (C := Try.checked) own started (by kernel_rfl) Try.func4
    (ChangeSpec.witness6 (enc := enc) (C := Try.checked) false ⟨#[], #[.slice none 0 0, .int .i64 0], []⟩ 8 (by kernel_rfl) (by kernel_rfl) (by kernel_rfl) (by kernel_rfl)) ?_
  intro W base args ds gs before hval0 hW hcnd _
  have hval : ∀ (j : Nat) t v, Try.f4.params[j]? = some t → args[j]? = some v → Value.okWide Try.prog W .any base t v := hval0
  have hW' := hW
  obtain ⟨p, q, hA0, hV, rfl, hfz, hnd⟩ := hW
  have hA : DataW.TrodAll enc Try.prog W 0 (fun _ => true) true Try.f4.params.toList args.toList ds p := hA0
  rw [Try.params4] at hA hval
  obtain ⟨v0, vs0, d0, ds0, p0, q0, hargs, rfl, rfl, h0, r0⟩ := trodAll_cons hA
  obtain ⟨v1, vs1, d1, ds1, p1, q1, rfl, rfl, rfl, h1, r1⟩ := trodAll_cons r0
  obtain ⟨rfl, rfl, rfl⟩ := trodAll_nil r1
  obtain rfl : args = #[v0, v1] := by cases args; simp_all
  obtain ⟨rfl, rfl⟩ := trodVars_none hV
  obtain ⟨a0, len0, cap0, rfl⟩ := okWide_slice Try.underlying22 (hval 0 22 v0 rfl rfl)
  have k0 := h0
  have lt0 : ∀ x ∈ p0, x.block < W.heap.size := by obtain ⟨m, hm⟩ := k0; exact DataW.trod_lt m _ _ _ hm
  obtain ⟨z0, w0⟩ : ∃ zs, IsRow .u8 W a0 len0 cap0 zs := by
    obtain ⟨fuel, hf⟩ := h0
    rcases open_ints Try.underlying22 Try.underlying5 (by kernel_rfl) hf with ⟨hcs, _⟩ | ⟨x, l, c, zs, hcs, _, hl, hm, hz, _, hcell, hwz⟩
    · simp [Value.cells] at hcs
      obtain ⟨rfl, rfl, rfl⟩ := hcs
      exact ⟨[], .inl ⟨rfl, rfl, rfl, rfl⟩⟩
    · simp [Value.cells] at hcs
      obtain ⟨rfl, rfl, rfl⟩ := hcs
      exact ⟨zs, .inr ⟨_, rfl, hl, hm, by simpa using hz, hcell, hwz⟩⟩
  obtain ⟨a1, rfl, rfl, rfl, w1⟩ := open_int Try.underlying3 (hval 1 3 v1 rfl rfl) h1
  refine (walk a0 len0 cap0 z0 a1 W w0 w1).mono fun e W' ⟨he, bel⟩ => ?_
  subst he
  exact ⟨_, rfl, _, _, _, [], _, [], hW', trodAll_mk1 (shut_bool Try.underlying4 _), (trodAll_cons_mk (Below.trod laidOut (by kernel_rfl) (of_decide_eq_true (by kernel_rfl)) k0 bel lt0) (trodAll_cons_mk (shut_int Try.underlying3 w1) trodAll_mk0)), rfl, bel.frame _, fun h => by cases h⟩

theorem over : Rows.deflateBackRow.holds Try.pinned (OpenSpec.ofChange Rows.deflateBackSpec) :=
  OpenClaim.holds_of_wide 4 Try.f4 rfl rfl rfl rfl rfl rfl rfl ⟨rfl, rfl, rfl, rfl, rfl⟩ rfl rfl rfl rfl rfl (by kernel_rfl) Try.func4 (by kernel_rfl)
    (of_decide_eq_true (by kernel_rfl)) (by unfold Func.isWrapper; first | (rw [if_pos (by decide +kernel)]; kernel_rfl) | (rw [if_neg (by decide +kernel)]; exact ⟨rfl, rfl⟩))
    (fun os started H enc _ => lifted os started H enc)

/-- The statement. -/
theorem proved : Rows.DeflateBackSaid := over
#print axioms proved
end Go.Proofs.Ytmdgpabmknigmaa.deflateBack
