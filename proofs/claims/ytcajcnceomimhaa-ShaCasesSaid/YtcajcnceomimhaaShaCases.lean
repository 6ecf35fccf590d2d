/- The program's statement ShaCases holds: for every input it returns true and leaves its arguments as they were. No further condition. -/
import Derived.Test.YtcajcnceomimhaaRows
import Derived.WalkKit
import Derived.ProofKit
import Derived.OpenShut
import Derived.ShutString
import Derived.ChangeOld
import Derived.Below
import Derived.StillTailTactics
import Derived.Deep.RegionHeld3
import Derived.Deep.AppendLies
import Derived.StillTactics
import Derived.Deep.RegionWith
import Derived.WalkSpells
import Derived.Outline
import Derived.Test.YtcajcnceomimhaaCases
namespace Go.Proofs.Ytcajcnceomimhaa.shaCases
open Go.ChangeShapes Go.WideShapes Go.ChangeAt Go.RowKit
open Go.ChangeMaps (open_string shut_string)
set_option linter.unusedVariables false

theorem own : ownKnob Try.prog.godebug = none := by kernel_rfl
theorem laidOut : laidOutB Try.prog = true := by kernel_rfl

/-- A slice of integers that came in: nil, or a row of cells. -/
def IsRow (k : IntKind) (w : World) (a : Option Addr) (len cap : Nat) (zs : List Int) : Prop :=
  (a = none ∧ len = 0 ∧ cap = 0 ∧ zs = []) ∨
  ∃ x, a = some x ∧ len ≤ cap ∧ cap ≤ maxLen ∧ zs.length = cap ∧ (∀ i, i < zs.length → w.cell? (x.add i) = some (.int k (zs.getD i 0))) ∧ ∀ n ∈ zs, (Lit.int k n).wf = true

/-! ### The walk -/
set_option maxRecDepth 100000 in
set_option maxHeartbeats 8000000 in
theorem walk {H : Type} {enc : TypeId × Value → H} (base : Nat) (v0 : Value) (d0 : DataW H) (p0 : List MemPlace) (a1 : Int) (a2 : Int) (w : World) (ok0 : Value.okWide Try.prog w .any base 25 v0) (rd0 : DataW.Trod enc Try.prog w 0 (fun _ => true) true 25 v0 d0 p0) (w1 : (Lit.int .i64 a1).wf = true) (w2 : (Lit.int .u8 a2).wf = true) :
    Calls Try.prog 7 #[v0, .int .i64 a1, .int .u8 a2] w fun e w' => e = .returned (.bool true) ∧ Below w.heap.size w w' := by
  obtain ⟨ids, rfl, h20, hib⟩ := open_array_u8 Try.underlying25 (by kernel_rfl) ok0 rd0
  have ha2 : 0 ≤ a2 ∧ a2 ≤ 255 := by simpa [Lit.wf, IntKind.min, IntKind.max, IntKind.signed, IntKind.bits] using w2
  clear ok0 rd0 w1 w2
  have H20 : Hid (ids.length = 20) := h20
  have HIB : Hid (∀ x ∈ ids, 0 ≤ x ∧ x ≤ 255) := hib
  have hxl : (hexN ids).length = 40 := by rw [hexN_length, h20]
  have hxm := hexN_mem ids hib
  have hxb : ∀ x ∈ hexN ids, 0 ≤ x ∧ x ≤ 255 := fun x hx => by have := hxm x hx; omega
  have HTX : Hid ((⟨(hexOf ids).toArray⟩ : ByteArray) = strOfNums (hexN ids)) := (hexN_text ids hib).symm
  have HGOOD : Hid (isHex (strOfNums (hexN ids)) = true) := hex_good ids h20 hib
  have HID : Hid ((Try.prog.info? 25).map (·.size) = some (V8 ids).size) := id_info ids h20
  have hbx : Below w.heap.size w (w.alloc (.cells (V8 ids) 25)) := (Below.refl _ _).alloc (Nat.le_refl _) _
  have HBX : Hid ((w.alloc (.cells (V8 ids) 25)).heap[w.heap.size]? = some (.cells (V8 ids) 25 (0, 0))) := heap_alloc_new w _
  have HBB : Hid (Below w.heap.size w (w.alloc (.cells (V8 ids) 25))) := hbx
  have e8 : ids.map (Value.int .u8) = ids.map (Value.int .u8) := rfl
  clear h20 hib hbx e8
  show Calls Try.prog 7 #[.agg (V8 ids), .int .i64 a1, .int .u8 a2] w _
  go_enter Try.func7, Try.ntmps7
  go_wp2_with (refine wpList_load_row rfl 25 _ rfl w.heap.size rfl 25 (V8 ids) (0, 0) (.array 20 5) HBX.out Try.underlying25 rfl HID.out ?_)
  generalize (w.alloc (.cells (V8 ids) 25)) = w0 at *
  refine (hex_any ids w0 H20.out HIB.out).mono ?_
  rintro e w1 ⟨rfl, hb1⟩
  rw [HTX.out]
  obtain ⟨c, w2, hcv, hb2, hsz2, hcell, hfr, hlec⟩ := conv_text (hexN ids) hxb w1
  rw [hxl] at hcv hcell hfr hlec
  generalize hexN ids = xs at *
  obtain ⟨k, hk, ek⟩ : ∃ k : Nat, k < 40 ∧ wrap64 ((IntKind.u64.wrap a1).tmod 40) = (k : Int) := by
    have h1 : 0 ≤ IntKind.u64.wrap a1 := by rw [IntKind.wrap_u64]; omega
    rw [Int.tmod_eq_emod_of_nonneg h1, IntWalk.wrap64_in _ (by omega)]
    exact ⟨(IntKind.u64.wrap a1 % 40).toNat, by omega, by omega⟩
  have hkc : (k : Int) ≤ (c : Int) := by omega
  obtain ⟨g, hg⟩ : ∃ g, g = w1.heap.size := ⟨_, rfl⟩
  rw [← hg] at hcv hcell hfr hsz2
  have hgw : w.heap.size ≤ g := by rw [hg]; exact (HBB.out.trans (hb1.mono HBB.out.size)).size
  have HW2 : Hid (Below w.heap.size w w2) := (HBB.out.trans (hb1.mono HBB.out.size)).trans (hb2.mono (by have := (HBB.out.trans (hb1.mono HBB.out.size)).size; omega))
  have HBY : Hid (Bytes w2 (some ⟨g, 0, none⟩) 40 xs) := ⟨hxl, by omega, fun j => by
    by_cases hj : j < xs.length
    · rw [List.getElem?_eq_getElem hj]; exact hxb _ (List.getElem_mem hj)
    · rw [List.getElem?_eq_none (by omega)]; simp, .inr ⟨g, 0, rfl, fun j hj => by rw [Nat.zero_add]; exact hcell j hj⟩⟩
  have HFR : Hid (∀ j, j < 40 → w2.frozen? ⟨g, j, none⟩ = false) := hfr
  have HG2 : Hid (g < w2.heap.size) := by show _ < _; omega
  have ht1 : (convert 22 9 (.slice (some ⟨g, 0, none⟩) k c)).run Try.prog w2 = .ok (.string (strOfNums (xs.take k))) w2 := by
    have h1 := HBY.out.first k
    rw [show min 40 k = k by omega] at h1
    exact text_run w2 _ k c _ h1
  have HE1 : Hid (parsedE (strOfNums (xs.take k)) = 4) := parsedE_bad _ (isHex_size _ (by rw [strOfNums_size, List.length_take]; omega))
  have HPL : Hid (∀ s, (parsed s).length = 20) := fun s => by
    unfold parsed; split
    · exact valsTo_length _ _
    · simp
  have HXM : Hid (∀ y ∈ xs, (48 ≤ y ∧ y ≤ 57) ∨ (97 ≤ y ∧ y ≤ 102)) := hxm
  have HXB : Hid (∀ y ∈ xs, 0 ≤ y ∧ y ≤ 255) := hxb
  have HXL : Hid (xs.length = 40) := hxl
  have HEK : Hid (wrap64 ((IntKind.u64.wrap a1).tmod 40) = (k : Int)) := ek
  have hz := zero_id
  have I20 : Hid (∀ xs : List Int, xs.length = 20 → (Try.prog.info? 25).map (·.size) = some (V8 xs).size) := id_info
  have HS1 : Hid ((strOfNums (xs.take k)).size ≤ 9223372036854775807) := by show _ ≤ _; rw [strOfNums_size, List.length_take]; omega
  clear hcell hfr hsz2 hb1 hb2 hxl hxm hxb HBX HBB hg
  go_wp2_with fail
  refine (parse_any (strOfNums (xs.take k)) w2 HS1.out).mono ?_
  rintro e w3 ⟨rfl, hb3⟩
  rw [HE1.out]
  have HP1 : Hid ((parsed (strOfNums (xs.take k))).length = 20) := HPL.out _
  generalize parsed (strOfNums (xs.take k)) = p1 at *
  have HB3 : Hid (Below w2.heap.size w2 w3) := hb3
  clear hb3 ht1 hcv
  have hcat : (strOfNums xs).size + (strOfNums [a2]).size ≤ 9223372036854775807 := by rw [strOfNums_size, strOfNums_size, HXL.out]; simp
  have HS2 : Hid ((strOfNums xs ++ strOfNums [a2]).size = 41) := by show _ = _; rw [ByteArray.size_append, strOfNums_size, strOfNums_size, HXL.out]; rfl
  have HE2 : Hid (parsedE (strOfNums xs ++ strOfNums [a2]) = 4) := parsedE_bad _ (isHex_size _ (by rw [HS2.out]; omega))
  have tok1 : True := trivial
  go_wp2_with (
    have _t := tok1
    refine wpList_store_row rfl 25 (.tmp 9) (.tmp 32) rfl w3.heap.size (V8 p1) rfl rfl 25 (V8 zeros20) (heap_alloc_new w3 _) (I20.out _ HP1.out) (by rw [V8_size, V8_size, HP1.out]; rfl) (V8_one _) ?_
    clear tok1
    have hb4 : Below w2.heap.size w2 (boxed w3 p1) := boxed_below HB3.out (Nat.le_refl _) p1
    have ht2 : (convert 22 9 (.slice (some ⟨g, 0, none⟩) 40 c)).run Try.prog (boxed w3 p1) = .ok (.string (strOfNums xs)) (boxed w3 p1) := text_run _ _ 40 c _ (HBY.out.below hb4)
    have ht3 := text_one (boxed w3 p1) a2 ha2
    change wpList _ _ _ _ _ (boxed w3 p1)
    generalize boxed w3 p1 = w4 at *)
  have HB4 : Hid (Below w2.heap.size w2 w4) := hb4
  refine (parse_any (strOfNums xs ++ strOfNums [a2]) _ (by rw [HS2.out]; omega)).mono ?_
  rintro e w5 ⟨rfl, hb5⟩
  rw [HE2.out]
  have HP2 : Hid ((parsed (strOfNums xs ++ strOfNums [a2])).length = 20) := HPL.out _
  generalize parsed (strOfNums xs ++ strOfNums [a2]) = p2 at *
  have HB5 : Hid (Below w2.heap.size w2 w5) := (HB4.out.alloc HB4.out.size _).trans (hb5.mono (by have := HB4.out.size; simp; omega))
  clear hb4 hb5 ht2 ht3 hcat
  obtain ⟨x, hx⟩ : ∃ x, xs[k]?.getD 0 = x := ⟨_, rfl⟩
  have hxr : (48 ≤ x ∧ x ≤ 57) ∨ (97 ≤ x ∧ x ≤ 102) := by
    rw [← hx, List.getElem?_eq_getElem (by rw [HXL.out]; exact hk)]; exact HXM.out _ (List.getElem_mem _)
  have HX : Hid (xs[k]?.getD 0 = x) := hx
  clear hx
  have HB6 : Hid (Below w2.heap.size w2 (boxed w5 p2)) := boxed_below HB5.out (Nat.le_refl _) p2
  have e6 : (boxed w5 p2).cell? ⟨g, k, none⟩ = some (.int .u8 x) := by
    rw [HB6.out.cell (p := ⟨g, k, none⟩) HG2.out, ← HX.out]
    obtain ⟨_, _, _, h | ⟨b, o, he, h⟩⟩ := HBY.out
    · omega
    · simp only [Option.some.injEq, Addr.mk.injEq] at he
      obtain ⟨rfl, rfl, -⟩ := he
      have := h k hk
      rwa [Nat.zero_add] at this
  have f6 : (boxed w5 p2).frozen? ⟨g, k, none⟩ = false := (HB6.out.frozen (p := ⟨g, k, none⟩) HG2.out).trans (HFR.out k hk)
  have tok2 : True := trivial
  rcases hxr with hxr | hxr
  · go_wp2_with (
      have _t := tok2
      refine wpList_store_row rfl 25 (.tmp 11) (.tmp 42) rfl w5.heap.size (V8 p2) rfl rfl 25 (V8 zeros20) (heap_alloc_new w5 _) (I20.out _ HP2.out) (by rw [V8_size, V8_size, HP2.out]; rfl) (V8_one _) ?_
      clear tok2
      have ht4 : (convert 22 9 (.slice (some ⟨g, 0, none⟩) 40 c)).run Try.prog (boxed w5 p2) = .ok (.string (strOfNums xs)) (boxed w5 p2) := text_run _ _ 40 c _ (HBY.out.below HB6.out)
      change wpList _ _ _ _ _ (boxed w5 p2)
      generalize boxed w5 p2 = w6 at *)
    have HSZ : Hid ((strOfNums xs).size = 40) := by show _ = _; rw [strOfNums_size, HXL.out]
    have HES : Hid (parsedE (strOfNums xs) = 0) := parsedE_good _ HGOOD.out
    have HB6' : Hid (Below w2.heap.size w2 w6) := HB6
    refine (parse_any (strOfNums xs) w6 (by rw [HSZ.out]; omega)).mono ?_
    rintro e w7 ⟨rfl, hb7⟩
    rw [HES.out]
    have HP3 : Hid ((parsed (strOfNums xs)).length = 20) := HPL.out _
    generalize parsed (strOfNums xs) = p3 at *
    have HB7 : Hid (Below w2.heap.size w2 w7) := HB6'.out.trans (hb7.mono HB6'.out.size)
    clear hb7 ht4
    have HB8 : Hid (Below w2.heap.size w2 (boxed w7 p3)) := boxed_below HB7.out (Nat.le_refl _) p3
    have tok3 : True := trivial
    go_wp2_with (
      have _t := tok3
      refine wpList_store_row rfl 25 (.tmp 14) (.tmp 69) rfl w7.heap.size (V8 p3) rfl rfl 25 (V8 zeros20) (heap_alloc_new w7 _) (I20.out _ HP3.out) (by rw [V8_size, V8_size, HP3.out]; rfl) (V8_one _) ?_
      clear tok3
      change wpList _ _ _ _ _ (boxed w7 p3)
      generalize boxed w7 p3 = w8 at *)
    refine (known_any w8).mono ?_
    rintro e w9 ⟨rfl, hb9⟩
    go_wp2_with fail
    go_ret
    exact ⟨rfl, HW2.out.trans ((HB8.out.trans (hb9.mono HB8.out.size)).mono HW2.out.size)⟩
  · go_wp2_with (
      have _t := tok2
      refine wpList_store_row rfl 25 (.tmp 11) (.tmp 42) rfl w5.heap.size (V8 p2) rfl rfl 25 (V8 zeros20) (heap_alloc_new w5 _) (I20.out _ HP2.out) (by rw [V8_size, V8_size, HP2.out]; rfl) (V8_one _) ?_
      clear tok2
      have hb6 : Below w2.heap.size w2 ((boxed w5 p2).setCell ⟨g, k, none⟩ (.int .u8 (x - 32))) ∨ True := .inr trivial
      have hby6 := (HBY.out.below HB6.out).set k hk (x - 32) (by omega)
      have ht4 : (convert 22 9 (.slice (some ⟨g, 0, none⟩) 40 c)).run Try.prog ((boxed w5 p2).setCell ⟨g, k, none⟩ (.int .u8 (x - 32))) = .ok (.string (strOfNums (xs.set k (x - 32)))) ((boxed w5 p2).setCell ⟨g, k, none⟩ (.int .u8 (x - 32))) := text_run _ _ 40 c _ hby6
      have HBG : Hid (Below w.heap.size w ((boxed w5 p2).setCell ⟨g, k, none⟩ (.int .u8 (x - 32)))) := (HW2.out.trans (HB6.out.mono HW2.out.size)).setCell hgw _
      clear hb6 hby6
      change wpList _ _ _ _ _ (boxed w5 p2)
      generalize boxed w5 p2 = w6 at *)
    have HSZ : Hid ((strOfNums (xs.set k (x - 32))).size = 40) := by show _ = _; rw [strOfNums_size, List.length_set, HXL.out]
    have HES : Hid (parsedE (strOfNums (xs.set k (x - 32))) = 4) := parsedE_bad _ (set_bad xs HXB.out HXL.out k hk _ (by omega))
    generalize w6.setCell ⟨g, k, none⟩ (.int .u8 (x - 32)) = w6s at *
    refine (parse_any (strOfNums (xs.set k (x - 32))) w6s (by rw [HSZ.out]; omega)).mono ?_
    rintro e w7 ⟨rfl, hb7⟩
    rw [HES.out]
    have HP3 : Hid ((parsed (strOfNums (xs.set k (x - 32)))).length = 20) := HPL.out _
    generalize parsed (strOfNums (xs.set k (x - 32))) = p3 at *
    have HB7 : Hid (Below w.heap.size w w7) := HBG.out.trans (hb7.mono HBG.out.size)
    clear hb7 ht4
    have HB8 : Hid (Below w.heap.size w (boxed w7 p3)) := boxed_below HB7.out (Nat.le_refl _) p3
    have tok3 : True := trivial
    go_wp2_with (
      have _t := tok3
      refine wpList_store_row rfl 25 (.tmp 14) (.tmp 69) rfl w7.heap.size (V8 p3) rfl rfl 25 (V8 zeros20) (heap_alloc_new w7 _) (I20.out _ HP3.out) (by rw [V8_size, V8_size, HP3.out]; rfl) (V8_one _) ?_
      clear tok3
      change wpList _ _ _ _ _ (boxed w7 p3)
      generalize boxed w7 p3 = w8 at *)
    refine (known_any w8).mono ?_
    rintro e w9 ⟨rfl, hb9⟩
    go_wp2_with fail
    go_ret
    exact ⟨rfl, HB8.out.trans (hb9.mono HB8.out.size)⟩

/-! ### The row's step -/
set_option maxRecDepth 100000 in
theorem lifted (os : Os) (started : os.Started) (H : Type) (enc : TypeId × Value → H) :
    ReturnsInHanded {} Try.checked os 7 .any (Rows.shaCasesSpec.pre6 enc Try.prog Try.f7 Rows.shaCasesRow.domain false) (Rows.shaCasesSpec.post enc Try.prog Try.f7 false true false false) := by
  refine returnsInHanded_of_change (C := Try.checked) own started (by kernel_rfl) Try.func7
    (ChangeSpec.witness6 (enc := enc) (C := Try.checked) false ⟨#[], #[.agg #[.int .u8 0, .int .u8 0, .int .u8 0, .int .u8 0, .int .u8 0, .int .u8 0, .int .u8 0, .int .u8 0, .int .u8 0, .int .u8 0, .int .u8 0, .int .u8 0, .int .u8 0, .int .u8 0, .int .u8 0, .int .u8 0, .int .u8 0, .int .u8 0, .int .u8 0, .int .u8 0], .int .i64 0, .int .u8 0], []⟩ 8 (by kernel_rfl) (by kernel_rfl) (by kernel_rfl) (by kernel_rfl)) ?_
  intro W base args ds gs before hval0 hW hcnd _
  have hval : ∀ (j : Nat) t v, Try.f7.params[j]? = some t → args[j]? = some v → Value.okWide Try.prog W .any base t v := hval0
  have hW' := hW
  obtain ⟨p, q, hA0, hV, rfl, hfz, hnd⟩ := hW
  have hA : DataW.TrodAll enc Try.prog W 0 (fun _ => true) true Try.f7.params.toList args.toList ds p := hA0
  rw [Try.params7] at hA hval
  obtain ⟨v0, vs0, d0, ds0, p0, q0, hargs, rfl, rfl, h0, r0⟩ := trodAll_cons hA
  obtain ⟨v1, vs1, d1, ds1, p1, q1, rfl, rfl, rfl, h1, r1⟩ := trodAll_cons r0
  obtain ⟨v2, vs2, d2, ds2, p2, q2, rfl, rfl, rfl, h2, r2⟩ := trodAll_cons r1
  obtain ⟨rfl, rfl, rfl⟩ := trodAll_nil r2
  obtain rfl : args = #[v0, v1, v2] := by cases args; simp_all
  obtain ⟨rfl, rfl⟩ := trodVars_none hV
  have lt0 : ∀ x ∈ p0, x.block < W.heap.size := by obtain ⟨m, hm⟩ := h0; exact DataW.trod_lt m _ _ _ hm
  obtain ⟨a1, rfl, rfl, rfl, w1⟩ := open_int Try.underlying3 (hval 1 3 v1 rfl rfl) h1
  obtain ⟨a2, rfl, rfl, rfl, w2⟩ := open_int Try.underlying5 (hval 2 5 v2 rfl rfl) h2
  refine (walk base v0 d0 p0 a1 a2 W (hval 0 25 v0 rfl rfl) h0 w1 w2).mono fun e W' ⟨he, bel⟩ => ?_
  subst he
  exact ⟨_, rfl, _, _, _, [], _, [], hW', trodAll_mk1 (shut_bool Try.underlying4 _), (trodAll_cons_mk (Below.trod laidOut (by kernel_rfl) (of_decide_eq_true (by kernel_rfl)) h0 bel lt0) (trodAll_cons_mk (shut_int Try.underlying3 w1) (trodAll_cons_mk (shut_int Try.underlying5 w2) trodAll_mk0))), rfl, bel.frame _, fun h => by cases h⟩

theorem over : Rows.shaCasesRow.holds Try.pinned (OpenSpec.ofChange Rows.shaCasesSpec) :=
  OpenClaim.holds_of_wide 7 Try.f7 rfl rfl rfl rfl rfl rfl rfl ⟨rfl, rfl, rfl, rfl, rfl⟩ rfl rfl rfl rfl rfl (by kernel_rfl) Try.func7 (by kernel_rfl)
    (of_decide_eq_true (by kernel_rfl)) (by unfold Func.isWrapper; first | (rw [if_pos (by decide +kernel)]; kernel_rfl) | (rw [if_neg (by decide +kernel)]; exact ⟨rfl, rfl⟩))
    (fun os started H enc _ => lifted os started H enc)

/-- The statement. -/
theorem proved : Rows.ShaCasesSaid := over
#print axioms proved
end Go.Proofs.Ytcajcnceomimhaa.shaCases
