/- The program's statement ObjectOpens holds: for every input it returns true and leaves its arguments as they were. No further condition. -/
import Derived.Test.YtglgchjkonjpiaaGreatDoorRows
import Derived.Test.YtglgchjkonjpiaaGreatDoorCards
import Derived.Test.YtglgchjkonjpiaaGreatDoorTie
import Derived.LaidMore
import Derived.Stop.Joined
import Derived.Stop.LaidErr
import Derived.SevenTiedAt
import Derived.Lib.LaidTab
import Derived.Shelf.Vars
import Derived.WalkSmall
import Derived.WalkKit
import Derived.ProofKit
import Derived.OpenShut
import Derived.ShutString
import Derived.ChangeOld
import Derived.Below
import Derived.StillTailTactics
import Derived.Deep.RegionHeld3
import Derived.Deep.AppendLies
import Derived.StillTactics
import Derived.Deep.RegionWith
import Derived.WalkSpells
import Derived.Outline
import Derived.Test.YtglgchjkonjpiaaGreatDoorBothO
namespace Go.Proofs.YtglgchjkonjpiaaGreatDoor.objectOpens
open Go.ChangeShapes Go.WideShapes Go.ChangeAt Go.RowKit
open Go.ChangeMaps (open_string shut_string)
set_option linter.unusedVariables false

theorem own : ownKnob Tryz.prog.godebug = none := by kernel_rfl
theorem laidOut : laidOutB Tryz.prog = true := by kernel_rfl

/-- A slice of integers that came in: nil, or a row of cells. -/
def IsRow (k : IntKind) (w : World) (a : Option Addr) (len cap : Nat) (zs : List Int) : Prop :=
  (a = none ∧ len = 0 ∧ cap = 0 ∧ zs = []) ∨
  ∃ x, a = some x ∧ len ≤ cap ∧ cap ≤ maxLen ∧ zs.length = cap ∧ (∀ i, i < zs.length → w.cell? (x.add i) = some (.int k (zs.getD i 0))) ∧ ∀ n ∈ zs, (Lit.int k n).wf = true
open Plain
/-! ### The walk -/
set_option maxRecDepth 100000 in
set_option maxHeartbeats 16000000 in
theorem walk (a0 : Option Addr) (len0 cap0 : Nat) (z0 : List Int) (w : World) (hE : Env w) (w0 : IsRow .u8 w a0 len0 cap0 z0) :
    Calls Tryz.prog 4 #[.slice a0 len0 cap0] w fun e w' => e = .returned (.bool true) ∧ Below w.heap.size w w' := by
  obtain ⟨hr0, hlc0, hcm0⟩ := row_in w0 600
  obtain ⟨m, hm⟩ : ∃ m, min len0 600 = m := ⟨_, rfl⟩
  have k0 : m ≤ 600 := by omega
  rw [hm] at hr0
  have R0 := Lib.hid hr0
  have HEE := Lib.hid hE
  have HF := Lib.hid (few_any a0 len0 cap0 m hm hlc0 hcm0)
  clear hE w0 hr0 hm hlc0 hcm0
  generalize (z0.take len0).take 600 = xs at *
  have HXL : Hid (xs.length = m) := R0.out.len
  go_enter Tryz.func4, Tryz.ntmps4
  go_wp2_with fail
  refine (HF.out _).mono ?_
  rintro e w' ⟨rfl, hw⟩
  have hw2 := hw.symm
  subst hw2
  clear hw
  by_cases h2 : m ≤ 2
  · have h2i : ¬ (2 : Int) < (m : Int) := by omega
    have HS : Hid (openN xs 16777236 = openN xs 100000) := open_same (most := 0) (by omega) (by omega) fun h => by have := HXL.out; omega
    go_wp2_with fail
    refine (openO_any a0 m cap0 xs w R0.out (by omega) (HEE.out.below (Below.refl w.heap.size w))).mono ?_
    rintro e w2 ⟨ho, hb⟩
    obtain ⟨k, ya, yl, yc, er, rfl⟩ := openO_shape ho
    have HO := Lib.hid ho
    have HB2 : Hid (Below w.heap.size w w2) := ((Below.refl w.heap.size w)).trans (hb.mono ((Below.refl w.heap.size w)).size)
    clear ho hb
    go_wp2_with fail
    refine (refO_any a0 m cap0 xs w2 (R0.out.below HB2.out) (by omega)).mono ?_
    rintro e w3 ⟨hr, hb⟩
    obtain ⟨zs, za, zl, zc, rfl, hy, hz⟩ := both_same HO.out hr HS.out
    have HY := Lib.hid (hy.below hb)
    have HZ := Lib.hid hz
    have HB3 : Hid (Below w.heap.size w w3) := HB2.out.trans (hb.mono HB2.out.size)
    clear hr hb hy hz HO
    go_wp2_with fail
    refine (known_env w3 (HEE.out.below HB3.out)).mono ?_
    rintro e w4 ⟨rfl, hb⟩
    have t1 := text_run w4 ya yl yc zs (HY.out.below hb).bytes
    have t2 := text_run w4 za zl zc zs (HZ.out.below hb).bytes
    have HB4 : Hid (Below w.heap.size w w4) := HB3.out.trans (hb.mono HB3.out.size)
    clear hb HY HZ
    generalize strOfNums zs = sz at *
    go_wp2_with fail
    go_ret
    exact ⟨rfl, HB4.out⟩
  · have h2i : (2 : Int) < (m : Int) := by omega
    have hsl := fun W => slice_from a0 m cap0 2 (by omega) R0.out.le W
    have HP := Lib.hid (R0.out.part 2 (by omega))
    obtain ⟨sl, hsl2⟩ : ∃ sl, m - 2 = sl := ⟨_, rfl⟩
    obtain ⟨sc, hsc⟩ : ∃ sc, cap0 - 2 = sc := ⟨_, rfl⟩
    obtain ⟨sa, hsa⟩ : ∃ sa, subA a0 cap0 2 = sa := ⟨_, rfl⟩
    rw [hsl2, hsc, hsa] at hsl HP
    have hslm : sl ≤ 600 := by omega
    have hslf : ∀ W : World, (Instr.sliceAt 22 (.slice a0 m cap0) (some (.int .i64 2)) none none).run Tryz.prog W = .ok (.slice sa sl sc) W := hsl
    clear hsl2 hsc hsa hsl
    go_wp2_with fail
    refine (rraw_row sa sl sc (xs.drop 2) 3000 3000 w HP.out (by omega) rfl (by omega)).mono ?_
    rintro e w1 (⟨q, y, xa, xc, hr, rfl, -, -, hb, -⟩ | ⟨k, hr, hk, rfl, hb⟩)
    · have HS : Hid (openN xs 16777236 = openN xs 100000) := open_same (most := 3000) (by omega) (by omega) fun _ => by rw [hr]; intro h; cases h
      have HB := Lib.hid hb
      clear hr hb HP hslf
      go_wp2_with fail
      refine (openO_any a0 m cap0 xs w1 (R0.out.below HB.out) (by omega) (HEE.out.below HB.out)).mono ?_
      rintro e w2 ⟨ho, hb⟩
      obtain ⟨k, ya, yl, yc, er, rfl⟩ := openO_shape ho
      have HO := Lib.hid ho
      have HB2 : Hid (Below w.heap.size w w2) := (HB.out).trans (hb.mono (HB.out).size)
      clear ho hb
      go_wp2_with fail
      refine (refO_any a0 m cap0 xs w2 (R0.out.below HB2.out) (by omega)).mono ?_
      rintro e w3 ⟨hr, hb⟩
      obtain ⟨zs, za, zl, zc, rfl, hy, hz⟩ := both_same HO.out hr HS.out
      have HY := Lib.hid (hy.below hb)
      have HZ := Lib.hid hz
      have HB3 : Hid (Below w.heap.size w w3) := HB2.out.trans (hb.mono HB2.out.size)
      clear hr hb hy hz HO
      go_wp2_with fail
      refine (known_env w3 (HEE.out.below HB3.out)).mono ?_
      rintro e w4 ⟨rfl, hb⟩
      have t1 := text_run w4 ya yl yc zs (HY.out.below hb).bytes
      have t2 := text_run w4 za zl zc zs (HZ.out.below hb).bytes
      have HB4 : Hid (Below w.heap.size w w4) := HB3.out.trans (hb.mono HB3.out.size)
      clear hb HY HZ
      generalize strOfNums zs = sz at *
      go_wp2_with fail
      go_ret
      exact ⟨rfl, HB4.out⟩
    · have HB := Lib.hid hb
      by_cases hk2 : k = 2
      · subst hk2
        clear hr hb HP hslf
        go_wp2_with fail
        refine (known_env w1 (HEE.out.below HB.out)).mono ?_
        rintro e w2 ⟨rfl, hb⟩
        have HB2 : Hid (Below w.heap.size w w2) := HB.out.trans (hb.mono HB.out.size)
        clear hb
        go_wp2_with fail
        go_ret
        exact ⟨rfl, HB2.out⟩
      · have HS : Hid (openN xs 16777236 = openN xs 100000) := open_same (most := 3000) (by omega) (by omega) fun _ => by
          rw [hr]
          intro h
          injection h with h
          exact hk2 h
        have k1 : ¬ (k : Int) = 2 := by omega
        have k2 : ((k : Int) == 2) = false := beq_eq_false_iff_ne.2 k1
        clear hr hb HP hslf
        go_wp2_with fail
        refine (openO_any a0 m cap0 xs w1 (R0.out.below HB.out) (by omega) (HEE.out.below HB.out)).mono ?_
        rintro e w2 ⟨ho, hb⟩
        obtain ⟨k, ya, yl, yc, er, rfl⟩ := openO_shape ho
        have HO := Lib.hid ho
        have HB2 : Hid (Below w.heap.size w w2) := (HB.out).trans (hb.mono (HB.out).size)
        clear ho hb
        go_wp2_with fail
        refine (refO_any a0 m cap0 xs w2 (R0.out.below HB2.out) (by omega)).mono ?_
        rintro e w3 ⟨hr, hb⟩
        obtain ⟨zs, za, zl, zc, rfl, hy, hz⟩ := both_same HO.out hr HS.out
        have HY := Lib.hid (hy.below hb)
        have HZ := Lib.hid hz
        have HB3 : Hid (Below w.heap.size w w3) := HB2.out.trans (hb.mono HB2.out.size)
        clear hr hb hy hz HO
        go_wp2_with fail
        refine (known_env w3 (HEE.out.below HB3.out)).mono ?_
        rintro e w4 ⟨rfl, hb⟩
        have t1 := text_run w4 ya yl yc zs (HY.out.below hb).bytes
        have t2 := text_run w4 za zl zc zs (HZ.out.below hb).bytes
        have HB4 : Hid (Below w.heap.size w w4) := HB3.out.trans (hb.mono HB3.out.size)
        clear hb HY HZ
        generalize strOfNums zs = sz at *
        go_wp2_with fail
        go_ret
        exact ⟨rfl, HB4.out⟩

def laidRow : List (String × DataW Unit) := [("math/bits.deBruijn32tab", Rows.laid_math_bits_deBruijn32tab), ("math/bits.deBruijn64tab", Rows.laid_math_bits_deBruijn64tab), ("internal/strconv.uint64pow10", Rows.laid_internal_strconv_uint64pow10), ("strconv.ErrRange", Rows.laid_strconv_ErrRange), ("strconv.ErrSyntax", Rows.laid_strconv_ErrSyntax)]
theorem tab_of {W : World} (h : laidMetH Tryz.prog laidRow W) : Lib.TabIs Tryz.prog W "internal/strconv.uint64pow10" .u64 Lib.pow10Tab := by
  rw [MakeChecks.laidMetH_plain _ _ _ (by kernel_rfl)] at h
  exact Lib.tabIs_of_head (g := 3) (t := 177) (e := 39) (n := 20) (by kernel_rfl) (by kernel_rfl) Tryz.underlying177 Tryz.underlying39 (by kernel_rfl) (by kernel_rfl) (laidMet.tail (laidMet.tail h))
theorem row_err (u : TypeId) (h : Tryz.prog.typeName? 3 u = some "*errors.errorString") : u = 181 :=
  have star : "*" ++ "errors.errorString" = "*errors.errorString" := by decide
  typeName_ptr_named (nm := "errors.errorString") (by rw [star]; kernel_rfl) (by kernel_rfl) (by decide) u (by rw [star]; exact h)
theorem vars_of {W : World} (h : laidMetH Tryz.prog laidRow W) : ErrVars W := by
  rw [MakeChecks.laidMetH_plain _ _ _ (by kernel_rfl)] at h
  have h3 := laidMet.tail (laidMet.tail (laidMet.tail h))
  obtain ⟨a0, s0, hv0, -, -, -⟩ := laid_sentinel (g := 2) h3 (by kernel_rfl) (by kernel_rfl) Tryz.underlying73 row_err Tryz.underlying181 Tryz.underlying183 rfl rfl Tryz.underlying9 (by kernel_rfl) (by kernel_rfl)
  obtain ⟨a1, s1, hv1, -, -, -⟩ := laid_sentinel (g := 1) (laidMet.tail h3) (by kernel_rfl) (by kernel_rfl) Tryz.underlying73 row_err Tryz.underlying181 Tryz.underlying183 rfl rfl Tryz.underlying9 (by kernel_rfl) (by kernel_rfl)
  exact ⟨⟨_, _, hv1⟩, ⟨_, _, hv0⟩⟩
/-! ### The row's step -/
theorem door_met {H : Type} {enc : TypeId × Value → H} (os : Os) (args : Array Value) : laidMetH Tryz.prog laidRow ((World.doorLaid Tryz.prog 400 os).forCall (fun _ _ => 0) ⟨#[], args, []⟩).memory :=
  laidMetH_of_parts3 (fuel := 8) (laidMet_of_run' 8 (by kernel_rfl) (by kernel_rfl)) (by kernel_rfl) (by kernel_rfl)
set_option maxRecDepth 100000 in
theorem contract {H : Type} (enc : TypeId × Value → H) (W : World) (base : Nat) (args : Array Value) (ds gs : List (DataW H)) (before : List MemPlace)
    (hval0 : ∀ (j : Nat) t v, Tryz.f4.params[j]? = some t → args[j]? = some v → Value.okWide Tryz.prog W .any base t v) (hW : DataW.Whole enc Tryz.prog Tryz.f4.params.toList Rows.objectOpensSpec.vars false W args.toList ds gs before) (hE : Env W) :
    Calls Tryz.prog 4 args W fun e W' => ∃ v, e = .returned v ∧ Rows.objectOpensSpec.post enc Tryz.prog Tryz.f4 false true false false W args v W' := by
  have hval : ∀ (j : Nat) t v, Tryz.f4.params[j]? = some t → args[j]? = some v → Value.okWide Tryz.prog W .any base t v := hval0
  have hW' := hW
  obtain ⟨p, q, hA0, hV, rfl, hfz, hnd⟩ := hW
  have hA : DataW.TrodAll enc Tryz.prog W 0 (fun _ => true) true Tryz.f4.params.toList args.toList ds p := hA0
  rw [Tryz.params4] at hA hval
  obtain ⟨v0, vs0, d0, ds0, p0, q0, hargs, rfl, rfl, h0, r0⟩ := trodAll_cons hA
  obtain ⟨rfl, rfl, rfl⟩ := trodAll_nil r0
  obtain rfl : args = #[v0] := by cases args; simp_all
  obtain ⟨rfl, rfl⟩ := trodVars_none hV
  obtain ⟨a0, len0, cap0, rfl⟩ := okWide_slice Tryz.underlying22 (hval 0 22 v0 rfl rfl)
  have k0 := h0
  have lt0 : ∀ x ∈ p0, x.block < W.heap.size := by obtain ⟨m, hm⟩ := k0; exact DataW.trod_lt m _ _ _ hm
  obtain ⟨z0, w0⟩ : ∃ zs, IsRow .u8 W a0 len0 cap0 zs := by
    obtain ⟨fuel, hf⟩ := h0
    rcases open_ints Tryz.underlying22 Tryz.underlying5 (by kernel_rfl) hf with ⟨hcs, _⟩ | ⟨x, l, c, zs, hcs, _, hl, hm, hz, _, hcell, hwz⟩
    · simp [Value.cells] at hcs
      obtain ⟨rfl, rfl, rfl⟩ := hcs
      exact ⟨[], .inl ⟨rfl, rfl, rfl, rfl⟩⟩
    · simp [Value.cells] at hcs
      obtain ⟨rfl, rfl, rfl⟩ := hcs
      exact ⟨zs, .inr ⟨_, rfl, hl, hm, by simpa using hz, hcell, hwz⟩⟩
  refine (walk a0 len0 cap0 z0 W hE w0).mono fun e W' ⟨he, bel⟩ => ?_
  subst he
  exact ⟨_, rfl, _, _, _, [], _, [], hW', trodAll_mk1 (shut_bool Tryz.underlying4 _), (trodAll_cons_mk (Below.trod laidOut (by kernel_rfl) (of_decide_eq_true (by kernel_rfl)) k0 bel lt0) trodAll_mk0), rfl, bel.frame _, fun h => by cases h⟩
set_option maxRecDepth 100000 in
theorem lifted (os : Os) (started : os.Started) (H : Type) (enc : TypeId × Value → H) :
    ReturnsInHanded {} Tryz.checked os 4 .any (fun w args => (Rows.objectOpensSpec.pre enc Tryz.prog Tryz.f4 [] false w args ∧ laidMetH Tryz.prog laidRow w) ∧ sizedMet enc Tryz.prog Tryz.f4 (OpenSpec.ofChange Rows.objectOpensSpec) false w args) (Rows.objectOpensSpec.post enc Tryz.prog Tryz.f4 false true false false) := by
  refine returnsInHanded_of_calls own started (by kernel_rfl)
    (ChangeSpec.witness_shaped (enc := enc) (C := Tryz.checked) (os := os) (X := fun w _ => laidMetH Tryz.prog laidRow w) false (World.doorLaid Tryz.prog 400 os) #[.slice none 0 0] 8 rfl (World.shaped_of_RefB (by kernel_rfl) (by kernel_rfl)) (by kernel_rfl) (by kernel_rfl) (by kernel_rfl) (door_met (enc := enc) os _)) ?_
  intro w tape inp _ hsh _ hok hpre _
  obtain ⟨_, _, _, fn', hfn', _, _, _, _, hval⟩ := hok
  obtain rfl : fn' = Tryz.f4 := Option.some.inj (hfn'.symm.trans Tryz.func4)
  obtain ⟨⟨⟨ds, gs, before, hw, -⟩, hx⟩, -⟩ := hpre
  have hL : laidMetH Tryz.prog laidRow (w.forCall tape inp) := laidMetH.of_heap (w' := w.forCall tape inp) (by rfl) hx
  have hmx : ∃ m, (w.forCall tape inp).cell? ⟨0, 0, none⟩ = some (.int .i64 m) :=
    Go.Proofs.cell_of_shapedOpen_int (zero := #[.int .i64 0]) (t := 3) hsh (of_decide_eq_true (by kernel_rfl)) (by kernel_rfl) rfl (by kernel_rfl) (by kernel_rfl) Tryz.underlying3
  refine (contract enc (w.forCall tape inp) w.heap.size inp.args ds gs before hval (DataW.Whole.of_heap (w' := w.forCall tape inp) (by rfl) hw) ⟨tab_of hL, vars_of hL, hmx⟩).mono fun e W' ⟨v, he, hp⟩ => ?_
  subst he
  exact ChangeSpec.post_blind hp

theorem over : Rows.objectOpensRow.holds Tryz.pinned (OpenSpec.ofChange Rows.objectOpensSpec) :=
  OpenClaim.holds_of_wide 4 Tryz.f4 rfl rfl rfl rfl rfl rfl rfl ⟨rfl, rfl, rfl, rfl, rfl⟩ rfl rfl rfl rfl rfl (by kernel_rfl) Tryz.func4 (by kernel_rfl)
    (of_decide_eq_true (by kernel_rfl)) (by unfold Func.isWrapper; first | (rw [if_pos (by decide +kernel)]; kernel_rfl) | (rw [if_neg (by decide +kernel)]; exact ⟨rfl, rfl⟩))
    (fun os started H enc _ => lifted os started H enc)

/-- The statement. -/
theorem proved : Rows.ObjectOpensCardSaid :=
  Claim7.holds_tied_plain_at .later [] [.data, .data, .data, .sentinel, .sentinel] true (true, "b95025a5ac34b7adccb8c9fa495b33d5fc5bd1cfed78c40ba2be93632e88b4b6") true
    over (fun _ h => by cases h) (by kernel_rfl) (fun _ h => by cases h) objectOpens_row_tie rfl ⟨rfl, rfl⟩ (by kernel_rfl) rfl
    (fun f fn hf hfn => by
      obtain rfl : f = 4 := Option.some.inj ((show Tryz.prog.funcNamed "tramway/tramwaylaw09.ObjectOpens" = some 4 by kernel_rfl).symm.trans hf) |>.symm
      obtain rfl : fn = Tryz.f4 := (Option.some.inj (Tryz.func4.symm.trans hfn)).symm
      exact ⟨by kernel_rfl, fun j t ht => by
        rw [Tryz.params4] at ht
        have hm : t ∈ [22] := by simpa using Array.mem_of_getElem? ht
        have hall : ([22].all fun u => !Tryz.prog.wantsStandIn u) = true := by kernel_rfl
        exact (show Tryz.prog.wantsStandIn t = false by simpa using List.all_eq_true.1 hall t hm)⟩)
    (by kernel_rfl)
#print axioms proved
end Go.Proofs.YtglgchjkonjpiaaGreatDoor.objectOpens
