/- The program's statement ZlibAny holds: for every input it returns true and leaves its arguments as they were. No further condition. -/
import Derived.Test.YtaghilpcnoekeaaRows
import Derived.WalkKit
import Derived.ProofKit
import Derived.OpenShut
import Derived.ShutString
import Derived.ChangeOld
import Derived.Below
import Derived.StillTailTactics
import Derived.Deep.RegionHeld3
import Derived.Deep.AppendLies
import Derived.StillTactics
import Derived.Deep.RegionWith
import Derived.WalkSpells
import Derived.Outline
import Derived.Test.YtaghilpcnoekeaaKnownZ
namespace Go.Proofs.Ytaghilpcnoekeaa.zlibAny
open Go.ChangeShapes Go.WideShapes Go.ChangeAt Go.RowKit
open Go.ChangeMaps (open_string shut_string)
set_option linter.unusedVariables false

theorem own : ownKnob Try.prog.godebug = none := by kernel_rfl
theorem laidOut : laidOutB Try.prog = true := by kernel_rfl

/-- A slice of integers that came in: nil, or a row of cells. -/
def IsRow (k : IntKind) (w : World) (a : Option Addr) (len cap : Nat) (zs : List Int) : Prop :=
  (a = none ∧ len = 0 ∧ cap = 0 ∧ zs = []) ∨
  ∃ x, a = some x ∧ len ≤ cap ∧ cap ≤ maxLen ∧ zs.length = cap ∧ (∀ i, i < zs.length → w.cell? (x.add i) = some (.int k (zs.getD i 0))) ∧ ∀ n ∈ zs, (Lit.int k n).wf = true
open Plain
theorem wp_via {P : Program} {c : Code} {Q : Exit → Act → World → Prop} {a : Act} {w : World} (A : Act) (W : World) (h1 : c.wp P (fun e a' w' => e = .normal ∧ a' = A ∧ w' = W) a w) (h2 : Q .normal A W) : c.wp P Q a w := by
  refine wp_mono h1 fun e a' w' ⟨he, ha, hw⟩ => ?_
  subst he ha hw
  exact h2
theorem mid_two (w : World) (x y : Int) : Mid (w.alloc (.cells #[.int .u8 x, .int .u8 y] 5)) w.heap.size (.slice (some ⟨w.heap.size, 0, none⟩) 2 2) 2 [x, y] := by
  have hb : (w.alloc (.cells #[.int .u8 x, .int .u8 y] 5)).heap[w.heap.size]? = some (.cells #[.int .u8 x, .int .u8 y] 5 (0, 0)) := by
    show (w.heap.push _)[w.heap.size]? = _
    simp
  have hs : w.heap.size < (w.alloc (.cells #[.int .u8 x, .int .u8 y] 5)).heap.size := by simp
  generalize w.alloc (.cells #[.int .u8 x, .int .u8 y] 5) = W at *
  refine ⟨rfl, .inr ⟨w.heap.size, 0, 2, rfl, Nat.le_refl _, hs, by omega, by omega, fun j v h => ?_, fun j hj => ?_⟩⟩
  · have hj : j < 2 := by
      rcases Nat.lt_or_ge j 2 with h1 | h1
      · exact h1
      · rw [List.getElem?_eq_none (by simpa [U8] using h1)] at h; cases h
    have hj2 : j = 0 ∨ j = 1 := by omega
    rcases hj2 with rfl | rfl <;> simp [U8] at h <;> subst h <;> simp [World.cell?, hb]
  · have hj2 : j = 0 ∨ j = 1 := by omega
    rcases hj2 with rfl | rfl <;> simp [World.cell?, World.frozen?, hb]
/-! ### The walk -/
set_option maxRecDepth 100000 in
set_option maxHeartbeats 8000000 in
theorem walk (a0 : Option Addr) (len0 cap0 : Nat) (z0 : List Int) (a1 : Option Addr) (len1 cap1 : Nat) (z1 : List Int) (w : World) (w0 : IsRow .u8 w a0 len0 cap0 z0) (w1 : IsRow .u8 w a1 len1 cap1 z1) :
    Calls Try.prog 7 #[.slice a0 len0 cap0, .slice a1 len1 cap1] w fun e w' => e = .returned (.bool true) ∧ Below w.heap.size w w' := by
  obtain ⟨hr0, hlc0, hcm0⟩ := row_in w0 600
  obtain ⟨hr1, hlc1, hcm1⟩ := row_in w1 100
  obtain ⟨m0, hm0⟩ : ∃ m, min len0 600 = m := ⟨_, rfl⟩
  obtain ⟨m1, hm1⟩ : ∃ m, min len1 100 = m := ⟨_, rfl⟩
  have k0 : m0 ≤ 600 := by omega
  have kc : m0 ≤ cap0 := by omega
  have k1 : m1 ≤ 100 := by omega
  have kc1 : m1 ≤ cap1 := by omega
  have hmin : ∀ W : World, Sem.run Try.prog (Builtin.min_ #[3, 3] 3 #[.int .i64 (len0 : Int), .int .i64 600]) W = .ok (.int .i64 (m0 : Int)) W := fun W => by
    rw [run_min2, show min (len0 : Int) 600 = (m0 : Int) by omega]
  have hmin1 : ∀ W : World, Sem.run Try.prog (Builtin.min_ #[3, 3] 3 #[.int .i64 (len1 : Int), .int .i64 100]) W = .ok (.int .i64 (m1 : Int)) W := fun W => by
    rw [run_min2, show min (len1 : Int) 100 = (m1 : Int) by omega]
  rw [hm0] at hr0
  rw [hm1] at hr1
  have R0 := Lib.hid hr0
  have R1 := Lib.hid hr1
  clear w0 w1 hr0 hr1 hm0 hm1
  generalize (z0.take len0).take 600 = x0 at *
  generalize (z1.take len1).take 100 = x1 at *
  go_enter Try.func7, Try.ntmps7
  go_wp2_with fail
  apply wp_via
  · go_region_held3 (fun _ => True) (trivial) (fail)
    all_goals exact ⟨rfl, rfl, rfl⟩
  have HD : Hid (Below w.heap.size w w.drew) := (Below.refl _ _).drew
  have Q0 := Lib.hid (R0.out.below HD.out)
  have Q1 := Lib.hid (R1.out.below HD.out)
  clear R0 R1
  generalize w.drew = wd at *
  go_wp2_with fail
  refine (raw_row a0 m0 cap0 x0 3000 3000 wd Q0.out (by omega) rfl (by omega)).mono ?_
  rintro e w2 (⟨q, m, ya, yc, hr, rfl, hrow, hmm, hb, -⟩ | ⟨k, hr, hk, rfl, hb⟩)
  · have hq := raw_last hr
    rw [Q0.out.len] at hq
    have hkeep := more_keep (RowB.mem Q0.out) (more := tail4 m ++ x1) (fun x hx => (List.mem_append.1 hx).elim (tail4_range m x) (RowB.mem Q1.out x)) hr
    obtain ⟨n1, hn1⟩ : ∃ n1, (q + 7) / 8 = n1 := ⟨_, rfl⟩
    rw [hn1] at hkeep ⊢
    have hn6 : n1 ≤ 600 := by omega
    have hnm : n1 ≤ m0 := by omega
    have hnc : n1 ≤ cap0 := by omega
    have hpl : (x0.take n1).length = n1 := by rw [List.length_take, Q0.out.len]; omega
    have hop := open_frame (x := 120) (y := 218) (by decide) (by rw [hn1, hpl]) hkeep
    rw [hpl] at hop
    have HOP := Lib.hid hop
    obtain ⟨ml, hml⟩ : ∃ ml, m.length = ml := ⟨_, rfl⟩
    rw [hml] at hrow hmm ⊢
    have HML := Lib.hid hml
    have HY := Lib.hid hrow
    have HB2 : Hid (Below w.heap.size w w2) := HD.out.trans (hb.mono HD.out.size)
    have S0 := Lib.hid (Q0.out.below hb)
    have S1 := Lib.hid (Q1.out.below hb)
    clear hr hq hn1 hkeep hpl hop hml hrow hb Q0 Q1
    go_wp2_with fail
    refine (known_any w2).mono ?_
    rintro e w3 ⟨rfl, hb⟩
    have HY3 := Lib.hid (HY.out.below hb)
    have HB3 : Hid (Below w.heap.size w w3) := HB2.out.trans (hb.mono HB2.out.size)
    have T0 := Lib.hid (S0.out.below hb)
    have T1 := Lib.hid (S1.out.below hb)
    have HAL : Hid (Below w3.heap.size w3 (w3.alloc (.cells #[.int .u8 120, .int .u8 218] 5))) := (Below.refl _ _).alloc (Nat.le_refl _) _
    have HE := Lib.hid (mid_two w3 120 218)
    clear hb HY HB2 S0 S1
    have tok : True := trivial
    go_wp2_with (
      have _t := tok
      at_builtin
      refine wpList_append_to rfl _ _ 22 rfl w3.heap.size (.slice (some ⟨w3.heap.size, 0, none⟩) 2 2) 2 [120, 218] rfl HE.out _ n1 (x0.take n1) rfl (src_bytes (by have := (T0.out.below HAL.out).bytes.first n1; rwa [Nat.min_eq_right hnm] at this)) (2 + n1) ([120, 218] ++ x0.take n1) rfl rfl (by omega) HAL.out.size ?_
      intro pa pc p2 hm hb
      have HM1 := Lib.hid hm
      have HB4 : Hid (Below w3.heap.size w3 p2) := HAL.out.trans hb
      clear tok hm hb HE HAL
      refine Hid.out ?_)
    refine unhid ?_
    go_wp2_with fail
    refine (tail_any p2 ya ml yc m (HY3.out.below HB4.out).bytes).mono ?_
    rintro e p3 ⟨⟨ta, rfl, ht⟩, hb⟩
    have HT := Lib.hid ht
    have HM2 := Lib.hid (HM1.out.below hb)
    have HB5 : Hid (Below w3.heap.size w3 p3) := HB4.out.trans (hb.mono HB4.out.size)
    clear hb ht HM1 HB4
    have tok : True := trivial
    go_wp2_with (
      have _t := tok
      at_builtin
      refine wpList_append_to rfl _ _ 22 rfl w3.heap.size (.slice pa (2 + n1) pc) (2 + n1) ([120, 218] ++ x0.take n1) rfl HM2.out _ 4 (tail4 m) rfl (src_bytes HT.out) (2 + n1 + 4) ([120, 218] ++ x0.take n1 ++ tail4 m) rfl rfl (by omega) HB5.out.size ?_
      intro fa fc p4 hm hb
      have HM3 := Lib.hid hm
      have HB6 : Hid (Below w3.heap.size w3 p4) := HB5.out.trans hb
      clear tok hm hb HM2 HB5 HT
      refine Hid.out ?_)
    refine unhid ?_
    have HFR : Hid (RowB p4 fa (2 + n1 + 4) fc ([120, 218] ++ x0.take n1 ++ tail4 m)) := HM3.out.row (range_append (range_append (range_of_mem0 (by decide)) (T0.out.bytes.first n1).2.2.1) (range_of_mem0 (tail4_range m)))
    have HAL : Hid (Below p4.heap.size p4 (p4.alloc (.cells #[] 5))) := (Below.refl _ _).alloc (Nat.le_refl _) _
    have HE : Hid (Mid (p4.alloc (.cells #[] 5)) p4.heap.size (.slice (some ⟨p4.heap.size, 0, none⟩) 0 0) 0 []) := by
      refine ⟨rfl, .inr ⟨p4.heap.size, 0, 0, rfl, Nat.le_refl _, by simp, by omega, by omega, fun j v h => by simp [U8] at h, fun j h => by omega⟩⟩
    clear HM3
    obtain ⟨fl, hfl⟩ : ∃ fl, 2 + n1 + 4 = fl := ⟨_, rfl⟩
    have hfl2 : fl ≤ 606 := by omega
    rw [hfl] at HFR HOP ⊢
    clear hfl
    have tok : True := trivial
    go_wp2_with (
      have _t := tok
      at_builtin
      refine wpList_append_to rfl _ _ 22 rfl p4.heap.size (.slice (some ⟨p4.heap.size, 0, none⟩) 0 0) 0 [] rfl HE.out _ fl ([120, 218] ++ x0.take n1 ++ tail4 m) rfl (src_bytes (HFR.out.below HAL.out).bytes) fl ([120, 218] ++ x0.take n1 ++ tail4 m) (by omega) rfl (by omega) HAL.out.size ?_
      intro ga gc p5 hm hb
      have HM4 := Lib.hid hm
      have HB7 : Hid (Below p4.heap.size p4 p5) := HAL.out.trans hb
      clear tok hm hb HE HAL
      refine Hid.out ?_)
    refine unhid ?_
    have HB8 : Hid (Below w3.heap.size w3 p5) := HB6.out.trans (HB7.out.mono HB6.out.size)
    have tok : True := trivial
    go_wp2_with (
      have _t := tok
      at_builtin
      refine wpList_append_to rfl _ _ 22 rfl p4.heap.size (.slice ga fl gc) fl ([120, 218] ++ x0.take n1 ++ tail4 m) rfl HM4.out _ m1 x1 rfl (src_bytes (T1.out.below HB8.out).bytes) (fl + m1) ([120, 218] ++ x0.take n1 ++ tail4 m ++ x1) rfl rfl (by omega) HB7.out.size ?_
      intro ha hc p6 hm hb
      have HM5 := Lib.hid hm
      have HB9 : Hid (Below w3.heap.size w3 p6) := HB6.out.trans ((HB7.out.trans hb).mono HB6.out.size)
      clear tok hm hb HM4
      refine Hid.out ?_)
    refine unhid ?_
    have HP : Hid (RowB p6 ha (fl + m1) hc ([120, 218] ++ x0.take n1 ++ tail4 m ++ x1)) := HM5.out.row (range_append HFR.out.range T1.out.range)
    have HY4 := Lib.hid (HY3.out.below HB9.out)
    have HB10 : Hid (Below w.heap.size w p6) := HB3.out.trans (HB9.out.mono HB3.out.size)
    clear HM5 HB6 HB7 HB8 HB9 HB3 HY3 T0 T1 HFR
    go_wp2_with fail
    refine (open_any ha (fl + m1) hc _ 3000 3000 p6 HP.out (by omega) rfl (by omega)).mono ?_
    rintro e w4 (⟨q', m', za, zc, hr, rfl, hrow, -, hb, -⟩ | ⟨k, hr, hk, rfl, hb⟩)
    · rw [show openN ([120, 218] ++ x0.take n1 ++ tail4 m ++ x1) 3000 = .ok (fl, m) from HOP.out] at hr
      injection hr with hr
      injection hr with h1 h2
      subst h1 h2
      rw [HML.out] at hrow ⊢
      have t1 := text_run w4 ya ml yc m (HY4.out.below hb).bytes
      have t2 := text_run w4 za ml zc m hrow.bytes
      have HB11 : Hid (Below w.heap.size w w4) := HB10.out.trans (hb.mono HB10.out.size)
      clear hrow hb HY4 HP HOP
      go_wp2_with fail
      go_ret
      exact ⟨rfl, HB11.out⟩
    · rw [show openN ([120, 218] ++ x0.take n1 ++ tail4 m ++ x1) 3000 = .ok (fl, m) from HOP.out] at hr
      cases hr
  · have hki : ¬ ((k : Int) = 0) := by omega
    have hkb : ((k : Int) == 0) = false := by simp; omega
    have hkc : ((k : Int) != 0) = true := by simp; omega
    have HB1 : Hid (Below w.heap.size w w2) := HD.out.trans (hb.mono HD.out.size)
    clear hr hb
    go_wp2_with fail
    refine (known_any w2).mono ?_
    rintro e w3 ⟨rfl, hb⟩
    have HB2 : Hid (Below w.heap.size w w3) := HB1.out.trans (hb.mono HB1.out.size)
    clear hb HB1
    go_wp2_with fail
    refine (known_any w3).mono ?_
    rintro e w4 ⟨rfl, hb⟩
    have HB3 : Hid (Below w.heap.size w w4) := HB2.out.trans (hb.mono HB2.out.size)
    clear hb HB2
    go_wp2_with fail
    go_ret
    exact ⟨rfl, HB3.out⟩

/-! ### The row's step -/
set_option maxRecDepth 100000 in
theorem lifted (os : Os) (started : os.Started) (H : Type) (enc : TypeId × Value → H) :
    ReturnsInHanded {} Try.checked os 7 .any (Rows.zlibAnySpec.pre6 enc Try.prog Try.f7 Rows.zlibAnyRow.domain false) (Rows.zlibAnySpec.post enc Try.prog Try.f7 false true false false) := by
  refine returnsInHanded_of_change (C := Try.checked) own started (by kernel_rfl) Try.func7
    (ChangeSpec.witness6 (enc := enc) (C := Try.checked) false ⟨#[], #[.slice none 0 0, .slice none 0 0], []⟩ 8 (by kernel_rfl) (by kernel_rfl) (by kernel_rfl) (by kernel_rfl)) ?_
  intro W base args ds gs before hval0 hW hcnd _
  have hval : ∀ (j : Nat) t v, Try.f7.params[j]? = some t → args[j]? = some v → Value.okWide Try.prog W .any base t v := hval0
  have hW' := hW
  obtain ⟨p, q, hA0, hV, rfl, hfz, hnd⟩ := hW
  have hA : DataW.TrodAll enc Try.prog W 0 (fun _ => true) true Try.f7.params.toList args.toList ds p := hA0
  rw [Try.params7] at hA hval
  obtain ⟨v0, vs0, d0, ds0, p0, q0, hargs, rfl, rfl, h0, r0⟩ := trodAll_cons hA
  obtain ⟨v1, vs1, d1, ds1, p1, q1, rfl, rfl, rfl, h1, r1⟩ := trodAll_cons r0
  obtain ⟨rfl, rfl, rfl⟩ := trodAll_nil r1
  obtain rfl : args = #[v0, v1] := by cases args; simp_all
  obtain ⟨rfl, rfl⟩ := trodVars_none hV
  obtain ⟨a0, len0, cap0, rfl⟩ := okWide_slice Try.underlying22 (hval 0 22 v0 rfl rfl)
  have k0 := h0
  have lt0 : ∀ x ∈ p0, x.block < W.heap.size := by obtain ⟨m, hm⟩ := k0; exact DataW.trod_lt m _ _ _ hm
  obtain ⟨z0, w0⟩ : ∃ zs, IsRow .u8 W a0 len0 cap0 zs := by
    obtain ⟨fuel, hf⟩ := h0
    rcases open_ints Try.underlying22 Try.underlying5 (by kernel_rfl) hf with ⟨hcs, _⟩ | ⟨x, l, c, zs, hcs, _, hl, hm, hz, _, hcell, hwz⟩
    · simp [Value.cells] at hcs
      obtain ⟨rfl, rfl, rfl⟩ := hcs
      exact ⟨[], .inl ⟨rfl, rfl, rfl, rfl⟩⟩
    · simp [Value.cells] at hcs
      obtain ⟨rfl, rfl, rfl⟩ := hcs
      exact ⟨zs, .inr ⟨_, rfl, hl, hm, by simpa using hz, hcell, hwz⟩⟩
  obtain ⟨a1, len1, cap1, rfl⟩ := okWide_slice Try.underlying22 (hval 1 22 v1 rfl rfl)
  have k1 := h1
  have lt1 : ∀ x ∈ p1, x.block < W.heap.size := by obtain ⟨m, hm⟩ := k1; exact DataW.trod_lt m _ _ _ hm
  obtain ⟨z1, w1⟩ : ∃ zs, IsRow .u8 W a1 len1 cap1 zs := by
    obtain ⟨fuel, hf⟩ := h1
    rcases open_ints Try.underlying22 Try.underlying5 (by kernel_rfl) hf with ⟨hcs, _⟩ | ⟨x, l, c, zs, hcs, _, hl, hm, hz, _, hcell, hwz⟩
    · simp [Value.cells] at hcs
      obtain ⟨rfl, rfl, rfl⟩ := hcs
      exact ⟨[], .inl ⟨rfl, rfl, rfl, rfl⟩⟩
    · simp [Value.cells] at hcs
      obtain ⟨rfl, rfl, rfl⟩ := hcs
      exact ⟨zs, .inr ⟨_, rfl, hl, hm, by simpa using hz, hcell, hwz⟩⟩
  refine (walk a0 len0 cap0 z0 a1 len1 cap1 z1 W w0 w1).mono fun e W' ⟨he, bel⟩ => ?_
  subst he
  exact ⟨_, rfl, _, _, _, [], _, [], hW', trodAll_mk1 (shut_bool Try.underlying4 _), (trodAll_cons_mk (Below.trod laidOut (by kernel_rfl) (of_decide_eq_true (by kernel_rfl)) k0 bel lt0) (trodAll_cons_mk (Below.trod laidOut (by kernel_rfl) (of_decide_eq_true (by kernel_rfl)) k1 bel lt1) trodAll_mk0)), rfl, bel.frame _, fun h => by cases h⟩

theorem over : Rows.zlibAnyRow.holds Try.pinned (OpenSpec.ofChange Rows.zlibAnySpec) :=
  OpenClaim.holds_of_wide 7 Try.f7 rfl rfl rfl rfl rfl rfl rfl ⟨rfl, rfl, rfl, rfl, rfl⟩ rfl rfl rfl rfl rfl (by kernel_rfl) Try.func7 (by kernel_rfl)
    (of_decide_eq_true (by kernel_rfl)) (by unfold Func.isWrapper; first | (rw [if_pos (by decide +kernel)]; kernel_rfl) | (rw [if_neg (by decide +kernel)]; exact ⟨rfl, rfl⟩))
    (fun os started H enc _ => lifted os started H enc)

/-- The statement. -/
theorem proved : Rows.ZlibAnySaid := over
#print axioms proved
end Go.Proofs.Ytaghilpcnoekeaa.zlibAny
