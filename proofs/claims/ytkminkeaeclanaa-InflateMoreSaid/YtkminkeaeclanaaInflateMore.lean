/- The program's statement InflateMore holds: for every input it returns true and leaves its arguments as they were. No further condition. -/
import Derived.Test.YtkminkeaeclanaaRows
import Derived.WalkKit
import Derived.ProofKit
import Derived.OpenShut
import Derived.ShutString
import Derived.ChangeOld
import Derived.Below
import Derived.StillTailTactics
import Derived.Deep.RegionHeld3
import Derived.Deep.AppendLies
import Derived.StillTactics
import Derived.Deep.RegionWith
import Derived.WalkSpells
import Derived.Outline
import Derived.Test.YtkminkeaeclanaaCutRaw
import Derived.Test.YtkminkeaeclanaaKnown
namespace Go.Proofs.Ytkminkeaeclanaa.inflateMore
open Go.ChangeShapes Go.WideShapes Go.ChangeAt Go.RowKit
open Go.ChangeMaps (open_string shut_string)
set_option linter.unusedVariables false

theorem own : ownKnob Try.prog.godebug = none := by kernel_rfl
theorem laidOut : laidOutB Try.prog = true := by kernel_rfl

/-- A slice of integers that came in: nil, or a row of cells. -/
def IsRow (k : IntKind) (w : World) (a : Option Addr) (len cap : Nat) (zs : List Int) : Prop :=
  (a = none ∧ len = 0 ∧ cap = 0 ∧ zs = []) ∨
  ∃ x, a = some x ∧ len ≤ cap ∧ cap ≤ maxLen ∧ zs.length = cap ∧ (∀ i, i < zs.length → w.cell? (x.add i) = some (.int k (zs.getD i 0))) ∧ ∀ n ∈ zs, (Lit.int k n).wf = true
open Plain
/-! ### The walk -/
set_option maxRecDepth 100000 in
set_option maxHeartbeats 16000000 in
theorem walk (a0 : Option Addr) (len0 cap0 : Nat) (z0 : List Int) (a1 : Option Addr) (len1 cap1 : Nat) (z1 : List Int) (a2 : Int) (w : World) (w0 : IsRow .u8 w a0 len0 cap0 z0) (w1 : IsRow .u8 w a1 len1 cap1 z1) (w2 : (Lit.int .i64 a2).wf = true) :
    Calls Try.prog 4 #[.slice a0 len0 cap0, .slice a1 len1 cap1, .int .i64 a2] w fun e w' => e = .returned (.bool true) ∧ Below w.heap.size w w' := by
  obtain ⟨hr0, hlc0, hcm0⟩ := row_in w0 600
  obtain ⟨hr1, hlc1, hcm1⟩ := row_in w1 600
  obtain ⟨m0, hm0⟩ : ∃ m, min len0 600 = m := ⟨_, rfl⟩
  obtain ⟨m1, hm1⟩ : ∃ m, min len1 600 = m := ⟨_, rfl⟩
  have k0 : m0 ≤ 600 := by omega
  have kc : m0 ≤ cap0 := by omega
  have k1 : m1 ≤ 600 := by omega
  have kc1 : m1 ≤ cap1 := by omega
  have hmin : ∀ W : World, Sem.run Try.prog (Builtin.min_ #[3, 3] 3 #[.int .i64 (len0 : Int), .int .i64 600]) W = .ok (.int .i64 (m0 : Int)) W := fun W => by
    rw [run_min2, show min (len0 : Int) 600 = (m0 : Int) by omega]
  have hmin1 : ∀ W : World, Sem.run Try.prog (Builtin.min_ #[3, 3] 3 #[.int .i64 (len1 : Int), .int .i64 600]) W = .ok (.int .i64 (m1 : Int)) W := fun W => by
    rw [run_min2, show min (len1 : Int) 600 = (m1 : Int) by omega]
  rw [hm0] at hr0
  rw [hm1] at hr1
  have R0 := Lib.hid hr0
  have R1 := Lib.hid hr1
  clear w0 w1 hr0 hr1 hm0 hm1
  generalize (z0.take len0).take 600 = x0 at *
  generalize (z1.take len1).take 600 = x1 at *
  go_enter Try.func4, Try.ntmps4
  go_wp2_with fail
  refine (raw_row a0 m0 cap0 x0 3000 3000 w R0.out (by omega) rfl (by omega)).mono ?_
  rintro e w2 (⟨q, m, ya, yc, hr, rfl, hrow, hmm, hb, -⟩ | ⟨k, hr, hk, rfl, hb⟩)
  · have hq := raw_last hr
    rw [R0.out.len] at hq
    have hsame := more_same (RowB.mem R0.out) (RowB.mem R1.out) hr
    have hcut := fun k (h : k < (q + 7) / 8) => cut_ends (RowB.mem R0.out) hr h
    have hless := fun k => less_room hr (k := k)
    obtain ⟨n1, hn1⟩ : ∃ n1, (q + 7) / 8 = n1 := ⟨_, rfl⟩
    rw [hn1] at hsame hcut ⊢
    have hn6 : n1 ≤ 600 := by omega
    have hnm : n1 ≤ m0 := by omega
    have hnc : n1 ≤ cap0 := by omega
    have hn0 : 0 < n1 := by omega
    obtain ⟨ml, hml⟩ : ∃ ml, m.length = ml := ⟨_, rfl⟩
    rw [hml] at hsame hless hrow hmm ⊢
    have hmlr := hml
    clear hml
    obtain ⟨t, htn, et⟩ : ∃ t : Nat, t < n1 ∧ wrap64 ((IntKind.u64.wrap a2).tmod (n1 : Int)) = (t : Int) := by
      have h0 : 0 ≤ IntKind.u64.wrap a2 := by rw [IntKind.wrap_u64]; omega
      generalize IntKind.u64.wrap a2 = u at *
      rw [Int.tmod_eq_emod_of_nonneg h0]
      have h1 := Int.emod_nonneg u (show (n1 : Int) ≠ 0 by omega)
      have h2 := Int.emod_lt_of_pos u (show (0 : Int) < (n1 : Int) by omega)
      rw [IntWalk.wrap64_in _ (by omega)]
      exact ⟨(u % (n1 : Int)).toNat, by omega, by omega⟩
    have htc : t ≤ cap0 := by omega
    have hcut := hcut t htn
    have hless := hless (ml - 1)
    have HS := Lib.hid hsame
    have HC := Lib.hid hcut
    have HLS := Lib.hid hless
    have HMR := Lib.hid hmlr
    have HN1 := Lib.hid hn1
    have HY := Lib.hid hrow
    have HB2 := Lib.hid hb
    have S0 := Lib.hid (R0.out.below hb)
    have S1 := Lib.hid (R1.out.below hb)
    have hu : IntKind.u64.wrap (n1 : Int) = (n1 : Int) := by rw [IntKind.wrap_u64]; omega
    have hn0' : ¬ ((n1 : Int) = 0) := by omega
    have hw : wrap64 ((ml : Int) - 1) = (ml : Int) - 1 := IntWalk.wrap64_in _ (by omega)
    clear hr hq hn1 hsame hcut hless hmlr hrow hb R0 R1
    go_wp2_with fail
    refine (known_any w2).mono ?_
    rintro e w3 ⟨rfl, hb⟩
    have HY3 := Lib.hid (HY.out.below hb)
    have HB3 : Hid (Below w.heap.size w w3) := HB2.out.trans (hb.mono HB2.out.size)
    have T0 := Lib.hid (S0.out.below hb)
    have T1 := Lib.hid (S1.out.below hb)
    have HAL : Hid (Below w3.heap.size w3 (w3.alloc (.cells #[] 5))) := (Below.refl _ _).alloc (Nat.le_refl _) _
    have HE : Hid (Mid (w3.alloc (.cells #[] 5)) w3.heap.size (.slice (some ⟨w3.heap.size, 0, none⟩) 0 0) 0 []) := by
      refine ⟨rfl, .inr ⟨w3.heap.size, 0, 0, rfl, Nat.le_refl _, by simp, by omega, by omega, fun j v h => by simp [U8] at h, fun j h => by omega⟩⟩
    clear hb HY HB2 S0 S1
    have tok : True := trivial
    go_wp2_with (
      have _t := tok
      at_builtin
      refine wpList_append_to rfl _ _ 22 rfl w3.heap.size (.slice (some ⟨w3.heap.size, 0, none⟩) 0 0) 0 [] rfl HE.out _ n1 (x0.take n1) rfl (src_bytes (by have := (T0.out.below HAL.out).bytes.first n1; rwa [Nat.min_eq_right hnm] at this)) n1 (x0.take n1) (by omega) rfl (by omega) HAL.out.size ?_
      intro pa pc p2 hm hb
      have HM1 := Lib.hid hm
      have HB4 : Hid (Below w3.heap.size w3 p2) := HAL.out.trans hb
      clear tok hm hb HE HAL
      refine Hid.out ?_)
    refine unhid ?_
    have tok : True := trivial
    go_wp2_with (
      have _t := tok
      at_builtin
      refine wpList_append_to rfl _ _ 22 rfl w3.heap.size (.slice pa n1 pc) n1 (x0.take n1) rfl HM1.out _ m1 x1 rfl (src_bytes (T1.out.below HB4.out).bytes) (n1 + m1) (x0.take n1 ++ x1) rfl rfl (by omega) HB4.out.size ?_
      intro pa2 pc2 p3 hm hb
      have HM2 := Lib.hid hm
      have HB5 : Hid (Below w3.heap.size w3 p3) := HB4.out.trans hb
      clear tok hm hb HM1 HB4
      refine Hid.out ?_)
    refine unhid ?_
    have HP : Hid (RowB p3 pa2 (n1 + m1) pc2 (x0.take n1 ++ x1)) := HM2.out.row (range_append (T0.out.bytes.first n1).2.2.1 T1.out.range)
    have HY4 := Lib.hid (HY3.out.below HB5.out)
    have U0 := Lib.hid (T0.out.below HB5.out)
    have HB6 : Hid (Below w.heap.size w p3) := HB3.out.trans (HB5.out.mono HB3.out.size)
    clear HM2 HB5 HB3 HY3 T0 T1
    go_wp2_with fail
    refine (raw_row pa2 (n1 + m1) pc2 (x0.take n1 ++ x1) (ml : Int) ml p3 HP.out (by omega) rfl (by omega)).mono ?_
    rintro e w4 (⟨q', m', za, zc, hr, rfl, hrow, -, hb, -⟩ | ⟨k, hr, hk, rfl, hb⟩)
    · rw [HS.out] at hr
      injection hr with hr
      injection hr with h1 h2
      subst h1 h2
      rw [HMR.out] at hrow ⊢
      rw [HN1.out]
      have HZ := Lib.hid hrow
      have t1 := text_run w4 ya ml yc m (HY4.out.below hb).bytes
      have t2 := text_run w4 za ml zc m hrow.bytes
      have V0 := Lib.hid (U0.out.below hb)
      have HB7 : Hid (Below w.heap.size w w4) := HB6.out.trans (hb.mono HB6.out.size)
      have htc' : (t : Int) ≤ (cap0 : Int) := by omega
      clear hrow hb HY4 U0 HB6 HP HS
      go_wp2_with fail
      refine (raw_row a0 t cap0 (x0.take t) 3000 3000 w4 ⟨htc, V0.out.cap, V0.out.nil, (by have := V0.out.bytes.first t; rwa [Nat.min_eq_right (by omega)] at this)⟩ (by omega) rfl (by omega)).mono ?_
      rintro e w5 (⟨q', m', xa, xc, hr, rfl, hrow, -, hb, -⟩ | ⟨k, hr, hk, rfl, hb⟩)
      · rw [HC.out] at hr; cases hr
      · rw [HC.out] at hr
        injection hr with hr
        subst hr
        have W0 := Lib.hid (V0.out.below hb)
        have HB8 : Hid (Below w.heap.size w w5) := HB7.out.trans (hb.mono HB7.out.size)
        clear hb V0 HB7 t1 t2 HZ
        go_wp2_with fail
        refine (raw_row a0 m0 cap0 x0 ((ml : Int) - 1) (ml - 1) w5 W0.out (by omega) (by omega) (by omega)).mono ?_
        by_cases hz : ml = 0
        · subst hz
          rintro e w6 (⟨q', m', xa, xc, hr, rfl, hrow, -, hb, -⟩ | ⟨k, hr, hk, rfl, hb⟩)
          · have HB9 : Hid (Below w.heap.size w w6) := HB8.out.trans (hb.mono HB8.out.size)
            clear hrow hb hr
            go_wp2_with fail
            go_ret
            exact ⟨rfl, HB9.out⟩
          · rw [HLS.out.2 (by omega)] at hr; cases hr
        · rintro e w6 (⟨q', m', xa, xc, hr, rfl, hrow, -, hb, -⟩ | ⟨k, hr, hk, rfl, hb⟩)
          · rw [HLS.out.1 (by omega)] at hr; cases hr
          · rw [HLS.out.1 (by omega)] at hr
            injection hr with hr
            subst hr
            have HB9 : Hid (Below w.heap.size w w6) := HB8.out.trans (hb.mono HB8.out.size)
            have hz' : ¬ ((ml : Int) = 0) := by omega
            clear hb
            go_wp2_with fail
            go_ret
            exact ⟨rfl, HB9.out⟩
    · rw [HS.out] at hr; cases hr
  · have hki : ¬ ((k : Int) = 0) := by omega
    have hkb : ((k : Int) == 0) = false := by simp; omega
    have hkc : ((k : Int) != 0) = true := by simp; omega
    have HB1 : Hid (Below w.heap.size w w2) := hb
    clear hr hb
    go_wp2_with fail
    refine (known_any w2).mono ?_
    rintro e w3 ⟨rfl, hb⟩
    have HB2 : Hid (Below w.heap.size w w3) := HB1.out.trans (hb.mono HB1.out.size)
    clear hb HB1
    go_wp2_with fail
    refine (known_any w3).mono ?_
    rintro e w4 ⟨rfl, hb⟩
    have HB3 : Hid (Below w.heap.size w w4) := HB2.out.trans (hb.mono HB2.out.size)
    clear hb HB2
    go_wp2_with fail
    go_ret
    exact ⟨rfl, HB3.out⟩

/-! ### The row's step -/
set_option maxRecDepth 100000 in
theorem lifted (os : Os) (started : os.Started) (H : Type) (enc : TypeId × Value → H) :
    ReturnsInHanded {} Try.checked os 4 .any (Rows.inflateMoreSpec.pre6 enc Try.prog Try.f4 Rows.inflateMoreRow.domain false) (Rows.inflateMoreSpec.post enc Try.prog Try.f4 false true false false) := by
  refine returnsInHanded_of_change (C := Try.checked) own started (by kernel_rfl) Try.func4
    (ChangeSpec.witness6 (enc := enc) (C := Try.checked) false ⟨#[], #[.slice none 0 0, .slice none 0 0, .int .i64 0], []⟩ 8 (by kernel_rfl) (by kernel_rfl) (by kernel_rfl) (by kernel_rfl)) ?_
  intro W base args ds gs before hval0 hW hcnd _
  have hval : ∀ (j : Nat) t v, Try.f4.params[j]? = some t → args[j]? = some v → Value.okWide Try.prog W .any base t v := hval0
  have hW' := hW
  obtain ⟨p, q, hA0, hV, rfl, hfz, hnd⟩ := hW
  have hA : DataW.TrodAll enc Try.prog W 0 (fun _ => true) true Try.f4.params.toList args.toList ds p := hA0
  rw [Try.params4] at hA hval
  obtain ⟨v0, vs0, d0, ds0, p0, q0, hargs, rfl, rfl, h0, r0⟩ := trodAll_cons hA
  obtain ⟨v1, vs1, d1, ds1, p1, q1, rfl, rfl, rfl, h1, r1⟩ := trodAll_cons r0
  obtain ⟨v2, vs2, d2, ds2, p2, q2, rfl, rfl, rfl, h2, r2⟩ := trodAll_cons r1
  obtain ⟨rfl, rfl, rfl⟩ := trodAll_nil r2
  obtain rfl : args = #[v0, v1, v2] := by cases args; simp_all
  obtain ⟨rfl, rfl⟩ := trodVars_none hV
  obtain ⟨a0, len0, cap0, rfl⟩ := okWide_slice Try.underlying22 (hval 0 22 v0 rfl rfl)
  have k0 := h0
  have lt0 : ∀ x ∈ p0, x.block < W.heap.size := by obtain ⟨m, hm⟩ := k0; exact DataW.trod_lt m _ _ _ hm
  obtain ⟨z0, w0⟩ : ∃ zs, IsRow .u8 W a0 len0 cap0 zs := by
    obtain ⟨fuel, hf⟩ := h0
    rcases open_ints Try.underlying22 Try.underlying5 (by kernel_rfl) hf with ⟨hcs, _⟩ | ⟨x, l, c, zs, hcs, _, hl, hm, hz, _, hcell, hwz⟩
    · simp [Value.cells] at hcs
      obtain ⟨rfl, rfl, rfl⟩ := hcs
      exact ⟨[], .inl ⟨rfl, rfl, rfl, rfl⟩⟩
    · simp [Value.cells] at hcs
      obtain ⟨rfl, rfl, rfl⟩ := hcs
      exact ⟨zs, .inr ⟨_, rfl, hl, hm, by simpa using hz, hcell, hwz⟩⟩
  obtain ⟨a1, len1, cap1, rfl⟩ := okWide_slice Try.underlying22 (hval 1 22 v1 rfl rfl)
  have k1 := h1
  have lt1 : ∀ x ∈ p1, x.block < W.heap.size := by obtain ⟨m, hm⟩ := k1; exact DataW.trod_lt m _ _ _ hm
  obtain ⟨z1, w1⟩ : ∃ zs, IsRow .u8 W a1 len1 cap1 zs := by
    obtain ⟨fuel, hf⟩ := h1
    rcases open_ints Try.underlying22 Try.underlying5 (by kernel_rfl) hf with ⟨hcs, _⟩ | ⟨x, l, c, zs, hcs, _, hl, hm, hz, _, hcell, hwz⟩
    · simp [Value.cells] at hcs
      obtain ⟨rfl, rfl, rfl⟩ := hcs
      exact ⟨[], .inl ⟨rfl, rfl, rfl, rfl⟩⟩
    · simp [Value.cells] at hcs
      obtain ⟨rfl, rfl, rfl⟩ := hcs
      exact ⟨zs, .inr ⟨_, rfl, hl, hm, by simpa using hz, hcell, hwz⟩⟩
  obtain ⟨a2, rfl, rfl, rfl, w2⟩ := open_int Try.underlying3 (hval 2 3 v2 rfl rfl) h2
  refine (walk a0 len0 cap0 z0 a1 len1 cap1 z1 a2 W w0 w1 w2).mono fun e W' ⟨he, bel⟩ => ?_
  subst he
  exact ⟨_, rfl, _, _, _, [], _, [], hW', trodAll_mk1 (shut_bool Try.underlying4 _), (trodAll_cons_mk (Below.trod laidOut (by kernel_rfl) (of_decide_eq_true (by kernel_rfl)) k0 bel lt0) (trodAll_cons_mk (Below.trod laidOut (by kernel_rfl) (of_decide_eq_true (by kernel_rfl)) k1 bel lt1) (trodAll_cons_mk (shut_int Try.underlying3 w2) trodAll_mk0))), rfl, bel.frame _, fun h => by cases h⟩

theorem over : Rows.inflateMoreRow.holds Try.pinned (OpenSpec.ofChange Rows.inflateMoreSpec) :=
  OpenClaim.holds_of_wide 4 Try.f4 rfl rfl rfl rfl rfl rfl rfl ⟨rfl, rfl, rfl, rfl, rfl⟩ rfl rfl rfl rfl rfl (by kernel_rfl) Try.func4 (by kernel_rfl)
    (of_decide_eq_true (by kernel_rfl)) (by unfold Func.isWrapper; first | (rw [if_pos (by decide +kernel)]; kernel_rfl) | (rw [if_neg (by decide +kernel)]; exact ⟨rfl, rfl⟩))
    (fun os started H enc _ => lifted os started H enc)

/-- The statement. -/
theorem proved : Rows.InflateMoreSaid := over
#print axioms proved
end Go.Proofs.Ytkminkeaeclanaa.inflateMore
