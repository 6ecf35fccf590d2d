/- The program's statement InflateAhead holds: for every input it returns true and leaves its arguments as they were. No further condition. -/
import Derived.Test.YtkminkeaeclanaaRows
import Derived.WalkKit
import Derived.ProofKit
import Derived.OpenShut
import Derived.ShutString
import Derived.ChangeOld
import Derived.Below
import Derived.StillTailTactics
import Derived.Deep.RegionHeld3
import Derived.Deep.AppendLies
import Derived.StillTactics
import Derived.Deep.RegionWith
import Derived.WalkSpells
import Derived.Outline
import Derived.Test.YtkminkeaeclanaaRawLast
import Derived.Test.YtkminkeaeclanaaKnown
namespace Go.Proofs.Ytkminkeaeclanaa.inflateAhead
open Go.ChangeShapes Go.WideShapes Go.ChangeAt Go.RowKit
open Go.ChangeMaps (open_string shut_string)
set_option linter.unusedVariables false

theorem own : ownKnob Try.prog.godebug = none := by kernel_rfl
theorem laidOut : laidOutB Try.prog = true := by kernel_rfl

/-- A slice of integers that came in: nil, or a row of cells. -/
def IsRow (k : IntKind) (w : World) (a : Option Addr) (len cap : Nat) (zs : List Int) : Prop :=
  (a = none ∧ len = 0 ∧ cap = 0 ∧ zs = []) ∨
  ∃ x, a = some x ∧ len ≤ cap ∧ cap ≤ maxLen ∧ zs.length = cap ∧ (∀ i, i < zs.length → w.cell? (x.add i) = some (.int k (zs.getD i 0))) ∧ ∀ n ∈ zs, (Lit.int k n).wf = true
open Plain
/-! ### The walk -/
set_option maxRecDepth 100000 in
set_option maxHeartbeats 16000000 in
theorem walk (a0 : Option Addr) (len0 cap0 : Nat) (z0 : List Int) (a1 : Int) (w : World) (w0 : IsRow .u8 w a0 len0 cap0 z0) (w1 : (Lit.int .i64 a1).wf = true) :
    Calls Try.prog 7 #[.slice a0 len0 cap0, .int .i64 a1] w fun e w' => e = .returned (.bool true) ∧ Below w.heap.size w w' := by
  obtain ⟨hr0, hlc0, hcm0⟩ := row_in w0 600
  obtain ⟨t, ht20, et⟩ : ∃ t : Nat, t < 20 ∧ wrap64 ((IntKind.u64.wrap a1).tmod 20) = (t : Int) := by
    have h0 : 0 ≤ IntKind.u64.wrap a1 := by rw [IntKind.wrap_u64]; omega
    generalize IntKind.u64.wrap a1 = u at *
    rw [Int.tmod_eq_emod_of_nonneg h0, IntWalk.wrap64_in _ (by omega)]
    exact ⟨(u % 20).toNat, by omega, by omega⟩
  obtain ⟨m0, hm0⟩ : ∃ m, min len0 600 = m := ⟨_, rfl⟩
  have k0 : m0 ≤ 600 := by omega
  have kc : m0 ≤ cap0 := by omega
  have hmin : ∀ W : World, Sem.run Try.prog (Builtin.min_ #[3, 3] 3 #[.int .i64 (len0 : Int), .int .i64 600]) W = .ok (.int .i64 (m0 : Int)) W := fun W => by
    rw [run_min2, show min (len0 : Int) 600 = (m0 : Int) by omega]
  rw [hm0] at hr0
  have R0 := Lib.hid hr0
  clear w0 w1 hr0 hm0
  generalize (z0.take len0).take 600 = x0 at *
  go_enter Try.func7, Try.ntmps7
  go_wp2_with fail
  go_loopw [5, 6] (fun v vi wr => ∃ i : Nat, vi = .int .i64 (i : Int) ∧ i ≤ t ∧ Mid wr w.heap.size v (5 * i) (emptyN i) ∧ Below w.heap.size w wr) (fun _ vi _ => t - (intOf vi).toNat)
  case atStart => exact ⟨0, rfl, by omega, Mid.nil _ _, Below.refl _ _⟩
  case round =>
    obtain ⟨i, rfl, hi, hm, hb⟩ := hrel
    have HM := Lib.hid hm
    have HB := Lib.hid hb
    obtain ⟨va, vc, rfl, -⟩ := hm.shape
    have hsz : w.heap.size ≤ wr.heap.size := hb.size
    clear hm hb
    by_cases hlt : i < t
    · have hli : (i : Int) < (t : Int) := by omega
      have HL : Hid (Bytes (wr.alloc (.cells #[.int .u8 0, .int .u8 0, .int .u8 0, .int .u8 255, .int .u8 255] 5)) (some ⟨wr.heap.size, 0, none⟩) 5 empty5) := Bytes.lit wr wr.heap.size rfl empty5 5 (0, 0) 5 rfl (by omega) (by decide)
      have HN : Hid (Below wr.heap.size wr (wr.alloc (.cells #[.int .u8 0, .int .u8 0, .int .u8 0, .int .u8 255, .int .u8 255] 5))) := (Below.refl _ _).alloc (Nat.le_refl _) _
      have tok : True := trivial
      go_wp2_with (
        have _t := tok
        at_builtin
        refine wpList_append_to rfl _ _ 22 rfl w.heap.size (.slice va (5 * i) vc) (5 * i) (emptyN i) rfl (HM.out.below HN.out) _ 5 empty5 rfl (src_bytes HL.out) (5 * (i + 1)) (emptyN (i + 1)) (by omega) rfl (by omega) (Nat.le_trans hsz HN.out.size) ?_
        intro pa pc p2 hm hb
        have HM2 := Lib.hid hm
        have HB2 : Hid (Below w.heap.size w p2) := (HB.out.trans (HN.out.mono hsz)).trans hb
        clear tok hm hb
        refine Hid.out ?_)
      refine unhid ?_
      clear HL HN HM
      go_wp2_with fail
      go_roundw
      case rel => exact ⟨i + 1, by go_num, by omega, HM2.out, HB2.out⟩
      case measure => simp [intOf]; go_num
    · have hit : i = t := by omega
      subst hit
      have hli : ¬ (i : Int) < (i : Int) := by omega
      have HC := Lib.hid (RowB.mem R0.out)
      have hx0 := ahead_many i x0 HC.out 3000
      have HX0 := Lib.hid hx0
      have ET := Lib.hid et
      have HBW : Hid (Below w.heap.size w wr) := HB.out
      clear hx0
      go_wp2_with fail
      refine (raw_row a0 m0 cap0 x0 3000 3000 wr (R0.out.below HBW.out) (by omega) rfl (by omega)).mono ?_
      rintro e w2 (⟨q, m, ya, yc, hr, rfl, hrow, hmm, hb, hmid⟩ | ⟨k, hr, hk, rfl, hb⟩)
      · have hq := raw_last hr
        rw [R0.out.len] at hq
        obtain ⟨n1, hn1⟩ : ∃ n1, (q + 7) / 8 = n1 := ⟨_, rfl⟩
        have hn6 : n1 ≤ 600 := by omega
        have hnn : (q + 40 * i + 7) / 8 = n1 + 5 * i := by omega
        have HXR : Hid (rawOf (emptyN i ++ x0) 3000 = .ok (q + 40 * i, m)) := by show _ = _; rw [HX0.out, hr]; rfl
        have HNN := Lib.hid hnn
        have HB1 : Hid (Below w.heap.size w w2) := HB.out.trans (hb.mono hsz)
        have HM1 := Lib.hid (HM.out.below hb)
        have R1 := Lib.hid ((R0.out.below HBW.out).below hb)
        have HMR := Lib.hid hrow.range
        have HOWN : Hid ((Value.slice ya m.length yc).ownBlock = none ∨ (Value.slice ya m.length yc).ownBlock ≠ (Value.slice va (5 * i) vc).ownBlock) := by
          show _ ∨ _
          cases hy : (Value.slice ya m.length yc).ownBlock with
          | none => exact .inl rfl
          | some b =>
            refine .inr fun e => ?_
            have h1 := (Mid.block_ge HM.out b e.symm).2
            have h2 := (Mid.block_ge hmid b hy).1
            omega
        have HY := Lib.hid hmid
        rw [hn1]
        clear hr hrow hb HM hn1 hq hnn hmid
        have hsz1 : w.heap.size ≤ w2.heap.size := HB1.out.size
        have tok : True := trivial
        go_wp2_with (
          have _t := tok
          at_builtin
          refine wpList_append_mid rfl _ _ 22 rfl w.heap.size (.slice va (5 * i) vc) (5 * i) (emptyN i) rfl HM1.out _ m0 x0 rfl (src_bytes R1.out.bytes) (by omega) hsz1 ?_
          intro pv p2 hm hg _
          have hb := HM1.out.off hsz1 hg
          obtain ⟨pa, pc, rfl, -⟩ := hm.shape
          have HP := Lib.hid (hm.row (range_append (range_of_mem0 (emptyN_range i)) R1.out.range))
          have HB2 : Hid (Below w.heap.size w p2) := HB1.out.trans hb
          have HY2 := Lib.hid ((HY.out.kept hg HOWN.out).row HMR.out)
          clear tok hm hb
          refine Hid.out ?_)
        refine unhid ?_
        clear HM1
        go_wp2_with fail
        refine (raw_row pa (5 * i + m0) pc (emptyN i ++ x0) 3000 3000 p2 HP.out (by omega) rfl (by omega)).mono ?_
        rintro e w3 (⟨q', m', za, zc, hr, rfl, hrow, -, hb, -⟩ | ⟨k, hr, hk, rfl, hb⟩)
        · rw [HXR.out] at hr
          injection hr with hr
          injection hr with h1 h2
          subst h1 h2
          rw [HNN.out]
          clear HX0 HXR HNN
          have HZ := Lib.hid hrow
          have HY3 := Lib.hid (HY2.out.below hb)
          have HB3 : Hid (Below w.heap.size w w3) := HB2.out.trans (hb.mono HB2.out.size)
          clear hrow hb HY HY2 HOWN HP
          go_wp2_with fail
          refine (known_any w3).mono ?_
          rintro e w4 ⟨rfl, hb4⟩
          have t1 := text_run w4 ya m.length yc m (HY3.out.below hb4).bytes
          have t2 := text_run w4 za m.length zc m (HZ.out.below hb4).bytes
          have HB4 : Hid (Below w.heap.size w w4) := HB3.out.trans (hb4.mono HB3.out.size)
          have hw : IntKind.i64.wrap ((n1 : Int) + 5 * (i : Int)) = (n1 : Int) + 5 * (i : Int) := IntWalk.i64_in _ (by omega)
          have hw2 : wrap64 ((n1 : Int) + 5 * (i : Int)) = (n1 : Int) + 5 * (i : Int) := IntWalk.wrap64_in _ (by omega)
          clear hb4 HY3 HZ HB3
          go_wp2_with fail
          go_ret
          exact ⟨rfl, HB4.out⟩
        · rw [HXR.out] at hr; cases hr
      · have HXR : Hid (rawOf (emptyN i ++ x0) 3000 = .error k) := by show _ = _; rw [HX0.out, hr]; rfl
        have hki : ¬ ((k : Int) = 0) := by omega
        have hkb : ((k : Int) == 0) = false := by simp; omega
        have hkc : ((k : Int) != 0) = true := by simp; omega
        have HB1 : Hid (Below w.heap.size w w2) := HB.out.trans (hb.mono hsz)
        have HM1 := Lib.hid (HM.out.below hb)
        have R1 := Lib.hid ((R0.out.below HBW.out).below hb)
        clear hr hb HM
        have hsz1 : w.heap.size ≤ w2.heap.size := HB1.out.size
        have tok : True := trivial
        go_wp2_with (
          have _t := tok
          at_builtin
          refine wpList_append_mid rfl _ _ 22 rfl w.heap.size (.slice va (5 * i) vc) (5 * i) (emptyN i) rfl HM1.out _ m0 x0 rfl (src_bytes R1.out.bytes) (by omega) hsz1 ?_
          intro pv p2 hm hg _
          have hb := HM1.out.off hsz1 hg
          obtain ⟨pa, pc, rfl, -⟩ := hm.shape
          have HP := Lib.hid (hm.row (range_append (range_of_mem0 (emptyN_range i)) R1.out.range))
          have HB2 : Hid (Below w.heap.size w p2) := HB1.out.trans hb
          clear tok hm hb
          refine Hid.out ?_)
        refine unhid ?_
        clear HM1
        go_wp2_with fail
        refine (raw_row pa (5 * i + m0) pc (emptyN i ++ x0) 3000 3000 p2 HP.out (by omega) rfl (by omega)).mono ?_
        rintro e w3 (⟨q', m', za, zc, hr, rfl, hrow, -, hb, -⟩ | ⟨k', hr, hk', rfl, hb⟩)
        · rw [HXR.out] at hr; cases hr
        · rw [HXR.out] at hr
          injection hr with h1
          subst h1
          clear HX0 HXR
          have HB3 : Hid (Below w.heap.size w w3) := HB2.out.trans (hb.mono HB2.out.size)
          clear hb HP
          go_wp2_with fail
          refine (known_any w3).mono ?_
          rintro e w4 ⟨rfl, hb4⟩
          have t1 := text_run w4 none 0 0 [] ⟨rfl, by omega, by simp, .inl rfl⟩
          have HB4 : Hid (Below w.heap.size w w4) := HB3.out.trans (hb4.mono HB3.out.size)
          clear hb4 HB3
          go_wp2_with fail
          go_ret
          exact ⟨rfl, HB4.out⟩

/-! ### The row's step -/
set_option maxRecDepth 100000 in
theorem lifted (os : Os) (started : os.Started) (H : Type) (enc : TypeId × Value → H) :
    ReturnsInHanded {} Try.checked os 7 .any (Rows.inflateAheadSpec.pre6 enc Try.prog Try.f7 Rows.inflateAheadRow.domain false) (Rows.inflateAheadSpec.post enc Try.prog Try.f7 false true false false) := by
  refine returnsInHanded_of_change (C := Try.checked) own started (by kernel_rfl) Try.func7
    (ChangeSpec.witness6 (enc := enc) (C := Try.checked) false ⟨#[], #[.slice none 0 0, .int .i64 0], []⟩ 8 (by kernel_rfl) (by kernel_rfl) (by kernel_rfl) (by kernel_rfl)) ?_
  intro W base args ds gs before hval0 hW hcnd _
  have hval : ∀ (j : Nat) t v, Try.f7.params[j]? = some t → args[j]? = some v → Value.okWide Try.prog W .any base t v := hval0
  have hW' := hW
  obtain ⟨p, q, hA0, hV, rfl, hfz, hnd⟩ := hW
  have hA : DataW.TrodAll enc Try.prog W 0 (fun _ => true) true Try.f7.params.toList args.toList ds p := hA0
  rw [Try.params7] at hA hval
  obtain ⟨v0, vs0, d0, ds0, p0, q0, hargs, rfl, rfl, h0, r0⟩ := trodAll_cons hA
  obtain ⟨v1, vs1, d1, ds1, p1, q1, rfl, rfl, rfl, h1, r1⟩ := trodAll_cons r0
  obtain ⟨rfl, rfl, rfl⟩ := trodAll_nil r1
  obtain rfl : args = #[v0, v1] := by cases args; simp_all
  obtain ⟨rfl, rfl⟩ := trodVars_none hV
  obtain ⟨a0, len0, cap0, rfl⟩ := okWide_slice Try.underlying22 (hval 0 22 v0 rfl rfl)
  have k0 := h0
  have lt0 : ∀ x ∈ p0, x.block < W.heap.size := by obtain ⟨m, hm⟩ := k0; exact DataW.trod_lt m _ _ _ hm
  obtain ⟨z0, w0⟩ : ∃ zs, IsRow .u8 W a0 len0 cap0 zs := by
    obtain ⟨fuel, hf⟩ := h0
    rcases open_ints Try.underlying22 Try.underlying5 (by kernel_rfl) hf with ⟨hcs, _⟩ | ⟨x, l, c, zs, hcs, _, hl, hm, hz, _, hcell, hwz⟩
    · simp [Value.cells] at hcs
      obtain ⟨rfl, rfl, rfl⟩ := hcs
      exact ⟨[], .inl ⟨rfl, rfl, rfl, rfl⟩⟩
    · simp [Value.cells] at hcs
      obtain ⟨rfl, rfl, rfl⟩ := hcs
      exact ⟨zs, .inr ⟨_, rfl, hl, hm, by simpa using hz, hcell, hwz⟩⟩
  obtain ⟨a1, rfl, rfl, rfl, w1⟩ := open_int Try.underlying3 (hval 1 3 v1 rfl rfl) h1
  refine (walk a0 len0 cap0 z0 a1 W w0 w1).mono fun e W' ⟨he, bel⟩ => ?_
  subst he
  exact ⟨_, rfl, _, _, _, [], _, [], hW', trodAll_mk1 (shut_bool Try.underlying4 _), (trodAll_cons_mk (Below.trod laidOut (by kernel_rfl) (of_decide_eq_true (by kernel_rfl)) k0 bel lt0) (trodAll_cons_mk (shut_int Try.underlying3 w1) trodAll_mk0)), rfl, bel.frame _, fun h => by cases h⟩

theorem over : Rows.inflateAheadRow.holds Try.pinned (OpenSpec.ofChange Rows.inflateAheadSpec) :=
  OpenClaim.holds_of_wide 7 Try.f7 rfl rfl rfl rfl rfl rfl rfl ⟨rfl, rfl, rfl, rfl, rfl⟩ rfl rfl rfl rfl rfl (by kernel_rfl) Try.func7 (by kernel_rfl)
    (of_decide_eq_true (by kernel_rfl)) (by unfold Func.isWrapper; first | (rw [if_pos (by decide +kernel)]; kernel_rfl) | (rw [if_neg (by decide +kernel)]; exact ⟨rfl, rfl⟩))
    (fun os started H enc _ => lifted os started H enc)

/-- The statement. -/
theorem proved : Rows.InflateAheadSaid := over
#print axioms proved
end Go.Proofs.Ytkminkeaeclanaa.inflateAhead
