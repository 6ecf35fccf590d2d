/- The program's statement ZlibHeads holds: for every input it returns true and leaves its arguments as they were. No further condition. -/
import Derived.Test.YtmdgpabmknigmaaRows
import Derived.WalkKit
import Derived.ProofKit
import Derived.OpenShut
import Derived.ShutString
import Derived.ChangeOld
import Derived.Below
import Derived.StillTailTactics
import Derived.Deep.RegionHeld3
import Derived.Deep.AppendLies
import Derived.StillTactics
import Derived.Deep.RegionWith
import Derived.WalkSpells
import Derived.Outline
import Derived.Test.YtmdgpabmknigmaaRefOpen
import Derived.Test.YtmdgpabmknigmaaZC
import Derived.Test.YtmdgpabmknigmaaWrap
import Derived.Test.YtmdgpabmknigmaaWrapBack
namespace Go.Proofs.Ytmdgpabmknigmaa.zlibHeads
open Go.ChangeShapes Go.WideShapes Go.ChangeAt Go.RowKit
open Go.ChangeMaps (open_string shut_string)
set_option linter.unusedVariables false

theorem own : ownKnob Try.prog.godebug = none := by kernel_rfl
theorem laidOut : laidOutB Try.prog = true := by kernel_rfl

/-- A slice of integers that came in: nil, or a row of cells. -/
def IsRow (k : IntKind) (w : World) (a : Option Addr) (len cap : Nat) (zs : List Int) : Prop :=
  (a = none ∧ len = 0 ∧ cap = 0 ∧ zs = []) ∨
  ∃ x, a = some x ∧ len ≤ cap ∧ cap ≤ maxLen ∧ zs.length = cap ∧ (∀ i, i < zs.length → w.cell? (x.add i) = some (.int k (zs.getD i 0))) ∧ ∀ n ∈ zs, (Lit.int k n).wf = true
open Plain
theorem heads_open {bs : List Int} (hb : ∀ x ∈ bs, 0 ≤ x ∧ x ≤ 255) (h30 : bs.length ≤ 300) (x y : Int) : openN (((wrapN bs).set 0 x).set 1 y) 300 = .error 4 ∨ ∃ n, openN (((wrapN bs).set 0 x).set 1 y) 300 = .ok (n, bs) := by
  have e : ((wrapN bs).set 0 x).set 1 y = x :: y :: (rawPack bs ++ tail4 bs) := by
    unfold wrapN
    simp
  obtain ⟨q, h1, h2⟩ := rawPack_back (most := 300) hb (by omega) h30
  have hk := more_keep (rawPack_mem bs hb) (more := tail4 bs ++ []) (fun z hz => tail4_range bs z (by simpa using hz)) h1
  rw [h2, List.take_length] at hk
  cases hf : frontN x y with
  | false =>
    left
    rw [e, openN, if_neg (by simp), show (x :: y :: (rawPack bs ++ tail4 bs))[0]?.getD 0 = x from rfl, show (x :: y :: (rawPack bs ++ tail4 bs))[1]?.getD 0 = y from rfl, if_pos hf]
  | true =>
    right
    have := open_frame (more := []) hf h2 hk
    refine ⟨2 + (rawPack bs).length + 4, ?_⟩
    rw [e]
    rw [show x :: y :: (rawPack bs ++ tail4 bs) = x :: y :: rawPack bs ++ tail4 bs ++ [] by simp]
    exact this
/-! ### The walk -/
set_option maxRecDepth 100000 in
set_option maxHeartbeats 16000000 in
theorem walk (a0 : Int) (a1 : Int) (a2 : Option Addr) (len2 cap2 : Nat) (z2 : List Int) (w : World) (w0 : (Lit.int .u8 a0).wf = true) (w1 : (Lit.int .u8 a1).wf = true) (w2 : IsRow .u8 w a2 len2 cap2 z2) :
    Calls Try.prog 6 #[.int .u8 a0, .int .u8 a1, .slice a2 len2 cap2] w fun e w' => e = .returned (.bool true) ∧ Below w.heap.size w w' := by
  have hx : 0 ≤ a0 ∧ a0 ≤ 255 := by simpa [Lit.wf, IntKind.min, IntKind.max, IntKind.signed, IntKind.bits] using w0
  have hy : 0 ≤ a1 ∧ a1 ≤ 255 := by simpa [Lit.wf, IntKind.min, IntKind.max, IntKind.signed, IntKind.bits] using w1
  obtain ⟨hr0, hlc0, hcm0⟩ := row_in w2 300
  obtain ⟨n, hn⟩ : ∃ m, min len2 300 = m := ⟨_, rfl⟩
  have k0 : n ≤ 300 := by omega
  have kc : n ≤ cap2 := by omega
  have hmin : ∀ W : World, Sem.run Try.prog (Builtin.min_ #[3, 3] 3 #[.int .i64 (len2 : Int), .int .i64 300]) W = .ok (.int .i64 (n : Int)) W := fun W => by
    rw [run_min2, show min (len2 : Int) 300 = (n : Int) by omega]
  rw [hn] at hr0
  have R0 := Lib.hid hr0
  clear w0 w1 w2 hr0 hn
  generalize (z2.take len2).take 300 = xs at *
  have HXL : Hid (xs.length = n) := R0.out.len
  have hple := rawPack_le xs (by rw [HXL.out]; omega)
  rw [HXL.out] at hple
  have hwl := wrapN_len xs
  have HWR := Lib.hid (fun W (h : RowB W a2 n cap2 xs) => wrap_any a2 n cap2 xs W h (by omega))
  have HOP := Lib.hid (heads_open R0.out.mem (by rw [HXL.out]; exact k0) a0 a1)
  have HWM : Hid (∀ z ∈ wrapN xs, 0 ≤ z ∧ z ≤ 255) := wrapN_mem xs R0.out.mem
  rw [hwl] at HWR
  generalize wrapN xs = WN at *
  obtain ⟨wl, ewl⟩ : ∃ wl, 2 + (rawPack xs).length + 4 = wl := ⟨_, rfl⟩
  rw [ewl] at HWR hwl
  have HWL := Lib.hid hwl
  have hwl9 : wl ≤ 1000 := by omega
  have hwl2 : 2 ≤ wl := by omega
  clear hwl ewl hple
  have hwi : ¬ (wl : Int) < 2 := by omega
  have h1n : (1 : Int) < (wl : Int) := by omega
  have h0n : 0 < wl := by omega
  have h0e : ¬ wl = 0 := by omega
  go_enter Try.func6, Try.ntmps6
  go_wp2_with fail
  refine (HWR.out w R0.out).mono ?_
  rintro e p2 ⟨⟨va, vc, rfl, hrow, hmid⟩, hb⟩
  obtain ⟨g, o, rfl⟩ : ∃ g o, va = some ⟨g, o, none⟩ := by
    rcases hrow.bytes.2.2.2 with h | ⟨g, o, e, -⟩
    · omega
    · exact ⟨g, o, e⟩
  have hgb : w.heap.size ≤ g := (hmid.block_ge g rfl).1
  obtain ⟨q0, f0⟩ := hmid.cellAt' 0 (by omega)
  obtain ⟨q1, f1⟩ := hmid.cellAt' 1 (by omega)
  rw [Nat.add_zero] at q0 f0
  have hm1 := hmid.set 0 (by omega) a0
  have hm2 := hm1.set 1 (by omega) a1
  rw [Nat.add_zero] at hm2
  have HM := Lib.hid hm2
  have hbz : Below w.heap.size w ((p2.setCell ⟨g, o, none⟩ (.int .u8 a0)).setCell ⟨g, o + 1, none⟩ (.int .u8 a1)) := (hb.setCell (by exact hgb) _).setCell (by exact hgb) _
  have HB := Lib.hid hbz
  clear hrow hmid hb HWR hm1 hm2 hbz R0 hmin
  generalize WN[0]?.getD 0 = u0 at *
  generalize WN[1]?.getD 0 = u1 at *
  go_wp2_with fail
  clear q0 f0 q1 f1
  generalize (p2.setCell ⟨g, o, none⟩ (.int .u8 a0)).setCell ⟨g, o + 1, none⟩ (.int .u8 a1) = p3 at *
  have HROW := Lib.hid (HM.out.row (range_of_mem0 (fun z hz => by
    rcases List.mem_or_eq_of_mem_set hz with h | rfl
    · rcases List.mem_or_eq_of_mem_set h with h | rfl
      · exact HWM.out z h
      · exact hx
    · exact hy)))
  obtain ⟨BS, hBS⟩ : ∃ B, (WN.set 0 a0).set 1 a1 = B := ⟨_, rfl⟩
  rw [hBS] at HROW HOP
  clear HM hBS
  refine (open_any (some ⟨g, o, none⟩) wl vc BS 300 300 p3 HROW.out (by omega) rfl (by omega)).mono ?_
  rintro e p4 (⟨q, m, ya, yc, hr, rfl, hrow, hmm, hb, -⟩ | ⟨k, hr, hk, rfl, hb⟩)
  · have R2 := Lib.hid (HROW.out.below hb)
    have HB4 : Hid (Below w.heap.size w p4) := HB.out.trans (hb.mono HB.out.size)
    have HR := Lib.hid hr
    clear hr hrow hb
    go_wp2_with fail
    refine (refOpen_any (some ⟨g, o, none⟩) wl vc BS 300 300 p4 R2.out (by omega) rfl (by omega)).mono ?_
    rintro e p5 (⟨q', m', za, zc, hr, rfl, hrow, -, hb, -⟩ | ⟨k', hr, hk', rfl, hb⟩)
    · have HB5 : Hid (Below w.heap.size w p5) := HB4.out.trans (hb.mono HB4.out.size)
      clear hr hrow hb R2
      go_wp2_with fail
      refine (known_any p5).mono ?_
      rintro e p6 ⟨rfl, hb⟩
      have HB6 : Hid (Below w.heap.size w p6) := HB5.out.trans (hb.mono HB5.out.size)
      clear hb
      go_wp2_with fail
      go_ret
      exact ⟨rfl, HB6.out⟩
    · rw [HR.out] at hr; cases hr
  · have hk4 : k = 4 := by
      rcases HOP.out with h | ⟨n, h⟩
      · rw [h] at hr; injection hr with h; exact h.symm
      · rw [h] at hr; cases hr
    subst hk4
    have R2 := Lib.hid (HROW.out.below hb)
    have HB4 : Hid (Below w.heap.size w p4) := HB.out.trans (hb.mono HB.out.size)
    have HR := Lib.hid hr
    clear hr hb hk
    go_wp2_with fail
    refine (refOpen_any (some ⟨g, o, none⟩) wl vc BS 300 300 p4 R2.out (by omega) rfl (by omega)).mono ?_
    rintro e p5 (⟨q', m', za, zc, hr, rfl, hrow, -, hb, -⟩ | ⟨k', hr, hk', rfl, hb⟩)
    · rw [HR.out] at hr; cases hr
    · rw [HR.out] at hr
      injection hr with h1
      subst h1
      have HB5 : Hid (Below w.heap.size w p5) := HB4.out.trans (hb.mono HB4.out.size)
      clear hb R2 hk'
      go_wp2_with fail
      refine (known_any p5).mono ?_
      rintro e p6 ⟨rfl, hb⟩
      have HB6 : Hid (Below w.heap.size w p6) := HB5.out.trans (hb.mono HB5.out.size)
      clear hb
      go_wp2_with fail
      go_ret
      exact ⟨rfl, HB6.out⟩

/-! ### The row's step -/
set_option maxRecDepth 100000 in
theorem lifted (os : Os) (started : os.Started) (H : Type) (enc : TypeId × Value → H) :
    ReturnsInHanded {} Try.checked os 6 .any (Rows.zlibHeadsSpec.pre6 enc Try.prog Try.f6 Rows.zlibHeadsRow.domain false) (Rows.zlibHeadsSpec.post enc Try.prog Try.f6 false true false false) := by
  refine returnsInHanded_of_change (C := Try.checked) own started (by kernel_rfl) Try.func6
    (ChangeSpec.witness6 (enc := enc) (C := Try.checked) false ⟨#[], #[.int .u8 0, .int .u8 0, .slice none 0 0], []⟩ 8 (by kernel_rfl) (by kernel_rfl) (by kernel_rfl) (by kernel_rfl)) ?_
  intro W base args ds gs before hval0 hW hcnd _
  have hval : ∀ (j : Nat) t v, Try.f6.params[j]? = some t → args[j]? = some v → Value.okWide Try.prog W .any base t v := hval0
  have hW' := hW
  obtain ⟨p, q, hA0, hV, rfl, hfz, hnd⟩ := hW
  have hA : DataW.TrodAll enc Try.prog W 0 (fun _ => true) true Try.f6.params.toList args.toList ds p := hA0
  rw [Try.params6] at hA hval
  obtain ⟨v0, vs0, d0, ds0, p0, q0, hargs, rfl, rfl, h0, r0⟩ := trodAll_cons hA
  obtain ⟨v1, vs1, d1, ds1, p1, q1, rfl, rfl, rfl, h1, r1⟩ := trodAll_cons r0
  obtain ⟨v2, vs2, d2, ds2, p2, q2, rfl, rfl, rfl, h2, r2⟩ := trodAll_cons r1
  obtain ⟨rfl, rfl, rfl⟩ := trodAll_nil r2
  obtain rfl : args = #[v0, v1, v2] := by cases args; simp_all
  obtain ⟨rfl, rfl⟩ := trodVars_none hV
  obtain ⟨a0, rfl, rfl, rfl, w0⟩ := open_int Try.underlying5 (hval 0 5 v0 rfl rfl) h0
  obtain ⟨a1, rfl, rfl, rfl, w1⟩ := open_int Try.underlying5 (hval 1 5 v1 rfl rfl) h1
  obtain ⟨a2, len2, cap2, rfl⟩ := okWide_slice Try.underlying22 (hval 2 22 v2 rfl rfl)
  have k2 := h2
  have lt2 : ∀ x ∈ p2, x.block < W.heap.size := by obtain ⟨m, hm⟩ := k2; exact DataW.trod_lt m _ _ _ hm
  obtain ⟨z2, w2⟩ : ∃ zs, IsRow .u8 W a2 len2 cap2 zs := by
    obtain ⟨fuel, hf⟩ := h2
    rcases open_ints Try.underlying22 Try.underlying5 (by kernel_rfl) hf with ⟨hcs, _⟩ | ⟨x, l, c, zs, hcs, _, hl, hm, hz, _, hcell, hwz⟩
    · simp [Value.cells] at hcs
      obtain ⟨rfl, rfl, rfl⟩ := hcs
      exact ⟨[], .inl ⟨rfl, rfl, rfl, rfl⟩⟩
    · simp [Value.cells] at hcs
      obtain ⟨rfl, rfl, rfl⟩ := hcs
      exact ⟨zs, .inr ⟨_, rfl, hl, hm, by simpa using hz, hcell, hwz⟩⟩
  refine (walk a0 a1 a2 len2 cap2 z2 W w0 w1 w2).mono fun e W' ⟨he, bel⟩ => ?_
  subst he
  exact ⟨_, rfl, _, _, _, [], _, [], hW', trodAll_mk1 (shut_bool Try.underlying4 _), (trodAll_cons_mk (shut_int Try.underlying5 w0) (trodAll_cons_mk (shut_int Try.underlying5 w1) (trodAll_cons_mk (Below.trod laidOut (by kernel_rfl) (of_decide_eq_true (by kernel_rfl)) k2 bel lt2) trodAll_mk0))), rfl, bel.frame _, fun h => by cases h⟩

theorem over : Rows.zlibHeadsRow.holds Try.pinned (OpenSpec.ofChange Rows.zlibHeadsSpec) :=
  OpenClaim.holds_of_wide 6 Try.f6 rfl rfl rfl rfl rfl rfl rfl ⟨rfl, rfl, rfl, rfl, rfl⟩ rfl rfl rfl rfl rfl (by kernel_rfl) Try.func6 (by kernel_rfl)
    (of_decide_eq_true (by kernel_rfl)) (by unfold Func.isWrapper; first | (rw [if_pos (by decide +kernel)]; kernel_rfl) | (rw [if_neg (by decide +kernel)]; exact ⟨rfl, rfl⟩))
    (fun os started H enc _ => lifted os started H enc)

/-- The statement. -/
theorem proved : Rows.ZlibHeadsSaid := over
#print axioms proved
end Go.Proofs.Ytmdgpabmknigmaa.zlibHeads
