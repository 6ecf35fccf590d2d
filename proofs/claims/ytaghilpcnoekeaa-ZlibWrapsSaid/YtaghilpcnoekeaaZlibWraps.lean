/- The program's statement ZlibWraps holds: for every input it returns true and leaves its arguments as they were. No further condition. -/
import Derived.Test.YtaghilpcnoekeaaRows
import Derived.WalkKit
import Derived.ProofKit
import Derived.OpenShut
import Derived.ShutString
import Derived.ChangeOld
import Derived.Below
import Derived.StillTailTactics
import Derived.Deep.RegionHeld3
import Derived.Deep.AppendLies
import Derived.StillTactics
import Derived.Deep.RegionWith
import Derived.WalkSpells
import Derived.Outline
import Derived.Test.YtaghilpcnoekeaaWrap
namespace Go.Proofs.Ytaghilpcnoekeaa.zlibWraps
open Go.ChangeShapes Go.WideShapes Go.ChangeAt Go.RowKit
open Go.ChangeMaps (open_string shut_string)
set_option linter.unusedVariables false

theorem own : ownKnob Try.prog.godebug = none := by kernel_rfl
theorem laidOut : laidOutB Try.prog = true := by kernel_rfl

/-- A slice of integers that came in: nil, or a row of cells. -/
def IsRow (k : IntKind) (w : World) (a : Option Addr) (len cap : Nat) (zs : List Int) : Prop :=
  (a = none ∧ len = 0 ∧ cap = 0 ∧ zs = []) ∨
  ∃ x, a = some x ∧ len ≤ cap ∧ cap ≤ maxLen ∧ zs.length = cap ∧ (∀ i, i < zs.length → w.cell? (x.add i) = some (.int k (zs.getD i 0))) ∧ ∀ n ∈ zs, (Lit.int k n).wf = true
open Plain
theorem wpAnyH_weaken {P : Program} {md : Region.Mode} {ops : Array Oper} {Q : Exit → Act → World → Prop} {S1 S2 : World → Prop} (h : ∀ w, S2 w → S1 w) :
    ∀ (fuel : Nat) (listed : Array Bool) (a : Act) (w : World), wpAnyH P md ops Q S2 fuel listed a w → wpAnyH P md ops Q S1 fuel listed a w
  | 0, _, _, _, hw => hw
  | fuel + 1, _, _, _, hw => ⟨hw.1, fun i hi => wpOp_mono (fun a' w' h' => ⟨h _ h'.1, wpAnyH_weaken h fuel _ a' w' h'.2⟩) (hw.2 i hi)⟩
/-- Both calls hand back the same bytes. -/
def SameBytes (f g : Nat) (args : Array Value) : Prop := ∃ xs : List Int,
  (∀ w : World, Calls Try.prog f args w fun e w' => (∃ a k c, e = .returned (.slice a k c) ∧ Bytes w' a k xs) ∧ Below w.heap.size w w') ∧
  (∀ w : World, Calls Try.prog g args w fun e w' => (∃ a k c, e = .returned (.slice a k c) ∧ Bytes w' a k xs) ∧ Below w.heap.size w w')
/-! ### The walk -/
set_option maxRecDepth 100000 in
set_option maxHeartbeats 16000000 in
theorem walk (a0 : Option Addr) (len0 cap0 : Nat) (z0 : List Int) (w : World) (w0 : IsRow .u8 w a0 len0 cap0 z0) :
    Calls Try.prog 4 #[.slice a0 len0 cap0] w fun e w' => e = .returned (.bool true) ∧ Below w.heap.size w w' := by
  obtain ⟨hr0, hlc0, hcm0⟩ := row_in w0 2000
  obtain ⟨n, hn⟩ : ∃ m, min len0 2000 = m := ⟨_, rfl⟩
  have k0 : n ≤ 2000 := by omega
  have kc : n ≤ cap0 := by omega
  have hmin : ∀ W : World, Sem.run Try.prog (Builtin.min_ #[3, 3] 3 #[.int .i64 (len0 : Int), .int .i64 2000]) W = .ok (.int .i64 (n : Int)) W := fun W => by
    rw [run_min2, show min (len0 : Int) 2000 = (n : Int) by omega]
  rw [hn] at hr0
  have R0 := Lib.hid hr0
  clear w0 hr0 hn
  generalize (z0.take len0).take 2000 = xs at *
  have HXL : Hid (xs.length = n) := R0.out.len
  have hple := rawPack_le xs (by rw [HXL.out]; omega)
  rw [HXL.out] at hple
  have HAL : Hid (Below w.heap.size w (w.alloc (.cells #[.int .u8 120, .int .u8 156] 5))) := (Below.refl _ _).alloc (Nat.le_refl _) _
  have HE := Lib.hid (mid_lit2 w 120 156)
  have HPK := Lib.hid (rawPack_any a0 n cap0 xs (w.alloc (.cells #[.int .u8 120, .int .u8 156] 5)) (R0.out.below HAL.out) (by omega))
  have HWN : Hid (wrapN xs = [120, 156] ++ rawPack xs ++ tail4 xs) := rfl
  have HWM : Hid (∀ x ∈ wrapN xs, 0 ≤ x ∧ x ≤ 255) := wrapN_mem xs R0.out.mem
  have HWR := Lib.hid (fun W (h : RowB W a0 n cap0 xs) => wrap_any a0 n cap0 xs W h (by omega))
  obtain ⟨P, hP⟩ : ∃ P, rawPack xs = P := ⟨_, rfl⟩
  rw [hP] at hple HPK HWN
  obtain ⟨pl, hpl⟩ : ∃ pl, P.length = pl := ⟨_, rfl⟩
  have hwl : (wrapN xs).length = 2 + pl + 4 := by rw [wrapN_len, hP, hpl]
  rw [hwl] at HWR
  rw [hpl] at hple HPK
  generalize wrapN xs = WN at *
  clear hP hpl hwl
  go_enter Try.func4, Try.ntmps4
  go_wp2_with fail
  refine HPK.out.mono ?_
  rintro e w1 ⟨⟨pa, pc, rfl, hrow⟩, hb⟩
  have HP := Lib.hid hrow
  have HE1 := Lib.hid (HE.out.below hb)
  have HB1 : Hid (Below w.heap.size w w1) := HAL.out.trans (hb.mono HAL.out.size)
  clear hrow hb HE HAL HPK
  have tok : True := trivial
  go_wp2_with (
    have _t := tok
    at_builtin
    refine wpList_append_to rfl _ _ 22 rfl w.heap.size (.slice (some ⟨w.heap.size, 0, none⟩) 2 2) 2 [120, 156] rfl HE1.out _ pl P rfl (src_bytes HP.out.bytes) (2 + pl) ([120, 156] ++ P) rfl rfl (by omega) HB1.out.size ?_
    intro qa qc w2 hm hb
    have HM2 := Lib.hid hm
    have HB2 : Hid (Below w.heap.size w w2) := HB1.out.trans hb
    clear tok hm hb HE1 HP
    refine Hid.out ?_)
  refine unhid ?_
  go_wp2_with fail
  refine (tail_any w2 a0 n cap0 xs (R0.out.below HB2.out).bytes).mono ?_
  rintro e w3 ⟨⟨ta, rfl, ht⟩, hb⟩
  have HT := Lib.hid ht
  have HM3 := Lib.hid (HM2.out.below hb)
  have HB3 : Hid (Below w.heap.size w w3) := HB2.out.trans (hb.mono HB2.out.size)
  clear hb ht HM2 HB2 HB1
  have tok : True := trivial
  go_wp2_with (
    have _t := tok
    at_builtin
    refine wpList_append_to rfl _ _ 22 rfl w.heap.size (.slice qa (2 + pl) qc) (2 + pl) ([120, 156] ++ P) rfl HM3.out _ 4 (tail4 xs) rfl (src_bytes HT.out) (2 + pl + 4) WN rfl HWN.out.symm (by omega) HB3.out.size ?_
    intro ra rc wz hm hb
    have HMZ := Lib.hid (hm.row (range_of_mem0 HWM.out))
    have HBz : Hid (Below w.heap.size w wz) := HB3.out.trans hb
    clear tok hm hb HM3 HT
    refine Hid.out ?_)
  refine unhid ?_
  have RZ := Lib.hid (R0.out.below HBz.out)
  clear HB3 R0
  go_wp2_with fail
  refine wp_region_noPanic ?_
  refine wp_region_held_drew (S := fun W => Below wz.heap.size wz W) (by kernel_rfl) ?_ (fun hHeld => ?_)
  · exact (Below.refl _ _).drew
  refine wpAnyH_ready (rs := [0]) (by kernel_rfl) (by simp) ?_
  refine AllReadyH.cons (by simp only [List.getElem?_toArray, List.getElem?_cons_zero]; rfl) (fun K hK => ?_) AllReadyH.nil
  go_simp
  refine (known_any _).mono ?_
  rintro e v1 ⟨rfl, hb⟩
  have hbb : Below wz.heap.size wz v1 := (Below.refl _ _).drew.trans hb
  have HWv1 : Hid (Below wz.heap.size wz v1) := hbb
  clear hb
  go_wp2_with fail
  refine hK.out _ _ hbb (fun hHeld2 => ?_)
  clear hK K hHeld hHeld2
  try simp only [Act.put, List.setIfInBounds_toArray, List.set_cons_zero, List.set_cons_succ]
  refine wpAnyH_weaken (S2 := fun W => Below v1.heap.size v1 W) (fun W hW => hbb.trans (Below.mono hW hbb.size)) _ _ _ _ ?_
  have hHeld : Below v1.heap.size v1 v1 := Below.refl _ _
  clear hbb
  refine wpAnyH_take (i := 1) (v := ?_) (by simp only [List.getElem?_toArray, List.getElem?_cons_succ, List.getElem?_cons_zero]; rfl) (by kernel_rfl) (by kernel_rfl) (by kernel_rfl) (fun _ _ _ h => h) (Or.inl ⟨by rfl, ?_⟩) (by assumption) ?_
  rotate_left
  · intro W hSW
    go_simp
    try with_reducible rfl
  try simp only [Act.put, List.setIfInBounds_toArray, List.set_cons_zero, List.set_cons_succ]
  refine wpAnyH_take (i := 2) (v := ?_) (by simp only [List.getElem?_toArray, List.getElem?_cons_succ, List.getElem?_cons_zero]; rfl) (by kernel_rfl) (by kernel_rfl) (by kernel_rfl) (fun _ _ _ h => h) (Or.inl ⟨by rfl, ?_⟩) (by assumption) ?_
  rotate_left
  · intro W hSW
    go_simp
    try with_reducible rfl
  try simp only [Act.put, List.setIfInBounds_toArray, List.set_cons_zero, List.set_cons_succ]
  refine wpAnyH_take (i := 5) (v := ?_) (by simp only [List.getElem?_toArray, List.getElem?_cons_succ, List.getElem?_cons_zero]; rfl) (by kernel_rfl) (by kernel_rfl) (by kernel_rfl) (fun _ _ _ h => h) (Or.inl ⟨by rfl, ?_⟩) (by assumption) ?_
  rotate_left
  · intro W hSW
    go_simp
    try with_reducible rfl
  try simp only [Act.put, List.setIfInBounds_toArray, List.set_cons_zero, List.set_cons_succ]
  refine wpAnyH_take (i := 6) (v := ?_) (by simp only [List.getElem?_toArray, List.getElem?_cons_succ, List.getElem?_cons_zero]; rfl) (by kernel_rfl) (by kernel_rfl) (by kernel_rfl) (fun _ _ _ h => h) (Or.inl ⟨by rfl, ?_⟩) (by assumption) ?_
  rotate_left
  · intro W hSW
    have tx := text_run W ra (2 + pl + 4) rc WN ((HMZ.out.below (HWv1.out.trans (hSW.mono HWv1.out.size))).bytes)
    go_simp
    try with_reducible rfl
  try simp only [Act.put, List.setIfInBounds_toArray, List.set_cons_zero, List.set_cons_succ]
  refine wpAnyH_ready (rs := [3]) (by kernel_rfl) (by simp) ?_
  refine AllReadyH.cons (by simp only [List.getElem?_toArray, List.getElem?_cons_succ, List.getElem?_cons_zero]; rfl) (fun K hK => ?_) AllReadyH.nil
  go_simp
  refine (HWR.out _ (RZ.out.below HWv1.out)).mono ?_
  rintro e v2 ⟨⟨sa, sc, rfl, hrow, -⟩, hb⟩
  have hbb : Below v1.heap.size v1 v2 := hb
  have HWv2 : Hid (Below wz.heap.size wz v2) := HWv1.out.trans ((hb).mono HWv1.out.size)
  have HSR := Lib.hid hrow
  clear hrow
  clear hb
  go_wp2_with fail
  refine hK.out _ _ hbb (fun hHeld2 => ?_)
  clear hK K hHeld hHeld2
  try simp only [Act.put, List.setIfInBounds_toArray, List.set_cons_zero, List.set_cons_succ]
  refine wpAnyH_weaken (S2 := fun W => Below v2.heap.size v2 W) (fun W hW => hbb.trans (Below.mono hW hbb.size)) _ _ _ _ ?_
  have hHeld : Below v2.heap.size v2 v2 := Below.refl _ _
  clear hbb
  refine wpAnyH_take (i := 4) (v := ?_) (by simp only [List.getElem?_toArray, List.getElem?_cons_succ, List.getElem?_cons_zero]; rfl) (by kernel_rfl) (by kernel_rfl) (by kernel_rfl) (fun _ _ _ h => h) (Or.inl ⟨by rfl, ?_⟩) (by assumption) ?_
  rotate_left
  · intro W hSW
    have tx := text_run W sa (2 + pl + 4) sc WN ((HSR.out.below hSW).bytes)
    go_simp
    try with_reducible rfl
  try simp only [Act.put, List.setIfInBounds_toArray, List.set_cons_zero, List.set_cons_succ]
  refine wpAnyH_take (i := 7) (v := ?_) (by simp only [List.getElem?_toArray, List.getElem?_cons_succ, List.getElem?_cons_zero]; rfl) (by kernel_rfl) (by kernel_rfl) (by kernel_rfl) (fun _ _ _ h => h) (Or.inl ⟨by rfl, ?_⟩) (by assumption) ?_
  rotate_left
  · intro W hSW
    go_simp
    try with_reducible rfl
  try simp only [Act.put, List.setIfInBounds_toArray, List.set_cons_zero, List.set_cons_succ]
  refine wpAnyH_take (i := 8) (v := ?_) (by simp only [List.getElem?_toArray, List.getElem?_cons_succ, List.getElem?_cons_zero]; rfl) (by kernel_rfl) (by kernel_rfl) (by kernel_rfl) (fun _ _ _ h => h) (Or.inl ⟨by rfl, ?_⟩) (by assumption) ?_
  rotate_left
  · intro W hSW
    go_simp
    try with_reducible rfl
  try simp only [Act.put, List.setIfInBounds_toArray, List.set_cons_zero, List.set_cons_succ]
  refine wpAnyH_take (i := 9) (v := ?_) (by simp only [List.getElem?_toArray, List.getElem?_cons_succ, List.getElem?_cons_zero]; rfl) (by kernel_rfl) (by kernel_rfl) (by kernel_rfl) (fun _ _ _ h => h) (Or.inl ⟨by rfl, ?_⟩) (by assumption) ?_
  rotate_left
  · intro W hSW
    go_simp
    try with_reducible rfl
  try simp only [Act.put, List.setIfInBounds_toArray, List.set_cons_zero, List.set_cons_succ]
  refine wpAnyH_done (by kernel_rfl) ?_ _
  refine NoPanic.normal ?_
  go_wp2_with fail
  go_ret
  exact ⟨rfl, HBz.out.trans (HWv2.out.mono HBz.out.size)⟩

/-! ### The row's step -/
set_option maxRecDepth 100000 in
theorem lifted (os : Os) (started : os.Started) (H : Type) (enc : TypeId × Value → H) :
    ReturnsInHanded {} Try.checked os 4 .any (Rows.zlibWrapsSpec.pre6 enc Try.prog Try.f4 Rows.zlibWrapsRow.domain false) (Rows.zlibWrapsSpec.post enc Try.prog Try.f4 false true false false) := by
  refine returnsInHanded_of_change (C := Try.checked) own started (by kernel_rfl) Try.func4
    (ChangeSpec.witness6 (enc := enc) (C := Try.checked) false ⟨#[], #[.slice none 0 0], []⟩ 8 (by kernel_rfl) (by kernel_rfl) (by kernel_rfl) (by kernel_rfl)) ?_
  intro W base args ds gs before hval0 hW hcnd _
  have hval : ∀ (j : Nat) t v, Try.f4.params[j]? = some t → args[j]? = some v → Value.okWide Try.prog W .any base t v := hval0
  have hW' := hW
  obtain ⟨p, q, hA0, hV, rfl, hfz, hnd⟩ := hW
  have hA : DataW.TrodAll enc Try.prog W 0 (fun _ => true) true Try.f4.params.toList args.toList ds p := hA0
  rw [Try.params4] at hA hval
  obtain ⟨v0, vs0, d0, ds0, p0, q0, hargs, rfl, rfl, h0, r0⟩ := trodAll_cons hA
  obtain ⟨rfl, rfl, rfl⟩ := trodAll_nil r0
  obtain rfl : args = #[v0] := by cases args; simp_all
  obtain ⟨rfl, rfl⟩ := trodVars_none hV
  obtain ⟨a0, len0, cap0, rfl⟩ := okWide_slice Try.underlying22 (hval 0 22 v0 rfl rfl)
  have k0 := h0
  have lt0 : ∀ x ∈ p0, x.block < W.heap.size := by obtain ⟨m, hm⟩ := k0; exact DataW.trod_lt m _ _ _ hm
  obtain ⟨z0, w0⟩ : ∃ zs, IsRow .u8 W a0 len0 cap0 zs := by
    obtain ⟨fuel, hf⟩ := h0
    rcases open_ints Try.underlying22 Try.underlying5 (by kernel_rfl) hf with ⟨hcs, _⟩ | ⟨x, l, c, zs, hcs, _, hl, hm, hz, _, hcell, hwz⟩
    · simp [Value.cells] at hcs
      obtain ⟨rfl, rfl, rfl⟩ := hcs
      exact ⟨[], .inl ⟨rfl, rfl, rfl, rfl⟩⟩
    · simp [Value.cells] at hcs
      obtain ⟨rfl, rfl, rfl⟩ := hcs
      exact ⟨zs, .inr ⟨_, rfl, hl, hm, by simpa using hz, hcell, hwz⟩⟩
  refine (walk a0 len0 cap0 z0 W w0).mono fun e W' ⟨he, bel⟩ => ?_
  subst he
  exact ⟨_, rfl, _, _, _, [], _, [], hW', trodAll_mk1 (shut_bool Try.underlying4 _), (trodAll_cons_mk (Below.trod laidOut (by kernel_rfl) (of_decide_eq_true (by kernel_rfl)) k0 bel lt0) trodAll_mk0), rfl, bel.frame _, fun h => by cases h⟩

theorem over : Rows.zlibWrapsRow.holds Try.pinned (OpenSpec.ofChange Rows.zlibWrapsSpec) :=
  OpenClaim.holds_of_wide 4 Try.f4 rfl rfl rfl rfl rfl rfl rfl ⟨rfl, rfl, rfl, rfl, rfl⟩ rfl rfl rfl rfl rfl (by kernel_rfl) Try.func4 (by kernel_rfl)
    (of_decide_eq_true (by kernel_rfl)) (by unfold Func.isWrapper; first | (rw [if_pos (by decide +kernel)]; kernel_rfl) | (rw [if_neg (by decide +kernel)]; exact ⟨rfl, rfl⟩))
    (fun os started H enc _ => lifted os started H enc)

/-- The statement. -/
theorem proved : Rows.ZlibWrapsSaid := over
#print axioms proved
end Go.Proofs.Ytaghilpcnoekeaa.zlibWraps
