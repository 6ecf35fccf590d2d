/- The program's statement ObjectCuts holds: for every input it returns true and leaves its arguments as they were. No further condition. -/
import Derived.Test.YtglgchjkonjpiaaGreatDoorRows
import Derived.Test.YtglgchjkonjpiaaGreatDoorCards
import Derived.Test.YtglgchjkonjpiaaGreatDoorTie
import Derived.LaidMore
import Derived.Stop.Joined
import Derived.Stop.LaidErr
import Derived.SevenTiedAt
import Derived.Lib.LaidTab
import Derived.Shelf.Vars
import Derived.WalkSmall
import Derived.WalkKit
import Derived.ProofKit
import Derived.OpenShut
import Derived.ShutString
import Derived.ChangeOld
import Derived.Below
import Derived.StillTailTactics
import Derived.Deep.RegionHeld3
import Derived.Deep.AppendLies
import Derived.StillTactics
import Derived.Deep.RegionWith
import Derived.WalkSpells
import Derived.Outline
import Derived.Test.YtglgchjkonjpiaaGreatDoorFewO
namespace Go.Proofs.YtglgchjkonjpiaaGreatDoor.objectCuts
open Go.ChangeShapes Go.WideShapes Go.ChangeAt Go.RowKit
open Go.ChangeMaps (open_string shut_string)
set_option linter.unusedVariables false

theorem own : ownKnob Tryz.prog.godebug = none := by kernel_rfl
theorem laidOut : laidOutB Tryz.prog = true := by kernel_rfl

/-- A slice of integers that came in: nil, or a row of cells. -/
def IsRow (k : IntKind) (w : World) (a : Option Addr) (len cap : Nat) (zs : List Int) : Prop :=
  (a = none ∧ len = 0 ∧ cap = 0 ∧ zs = []) ∨
  ∃ x, a = some x ∧ len ≤ cap ∧ cap ≤ maxLen ∧ zs.length = cap ∧ (∀ i, i < zs.length → w.cell? (x.add i) = some (.int k (zs.getD i 0))) ∧ ∀ n ∈ zs, (Lit.int k n).wf = true
open Plain
/-! ### The walk -/
set_option maxRecDepth 100000 in
set_option maxHeartbeats 16000000 in
theorem walk (a0 : Int) (a1 : Option Addr) (len1 cap1 : Nat) (z1 : List Int) (a2 : Int) (w : World) (hE : Env w) (w0 : (Lit.int .i64 a0).wf = true) (w1 : IsRow .u8 w a1 len1 cap1 z1) (w2 : (Lit.int .i64 a2).wf = true) :
    Calls Tryz.prog 6 #[.int .i64 a0, .slice a1 len1 cap1, .int .i64 a2] w fun e w' => e = .returned (.bool true) ∧ Below w.heap.size w w' := by
  obtain ⟨hr1, hlc1, hcm1⟩ := row_in w1 600
  obtain ⟨m, hm⟩ : ∃ m, min len1 600 = m := ⟨_, rfl⟩
  have k0 : m ≤ 600 := by omega
  rw [hm] at hr1
  have R1 := Lib.hid hr1
  have HEE := Lib.hid hE
  have HF := Lib.hid (few_any a1 len1 cap1 m hm hlc1 hcm1)
  obtain ⟨k, hk1, hk4, ek⟩ : ∃ k : Nat, 1 ≤ k ∧ k ≤ 4 ∧ wrap64 (1 + wrap64 ((IntKind.u64.wrap a0).tmod 4)) = (k : Int) := by
    have h0 : 0 ≤ IntKind.u64.wrap a0 := by rw [IntKind.wrap_u64]; omega
    generalize IntKind.u64.wrap a0 = u at *
    have h1 : u.tmod 4 = u % 4 := Int.tmod_eq_emod_of_nonneg h0
    rw [h1]
    have h2 : 0 ≤ u % 4 ∧ u % 4 < 4 := by omega
    generalize u % 4 = r at *
    refine ⟨(1 + r).toNat, by omega, by omega, ?_⟩
    rw [IntWalk.wrap64_in r (by omega), IntWalk.wrap64_in (1 + r) (by omega)]
    omega
  have HWN := Lib.hid (word_some k hk1 hk4)
  clear hE w0 w1 hr1 hm hlc1 hcm1
  generalize (z1.take len1).take 600 = xs at *
  go_enter Tryz.func6, Tryz.ntmps6
  go_wp2_with fail
  refine (HF.out _).mono ?_
  rintro e w' ⟨rfl, hw⟩
  have hw2 := hw.symm
  subst hw2
  clear hw
  go_wp2_with fail
  refine (loose_any k a1 m cap1 xs w R1.out (by omega) HEE.out).mono ?_
  rintro e w1 ⟨⟨h0, -⟩ | ⟨-, va, l, vc, rfl, hrow⟩, hb⟩
  · exact absurd h0 HWN.out
  · have HB := Lib.hid hb
    have HR := Lib.hid hrow
    have hl := hrow.len
    have HM := Lib.hid (whole_mem (k : Int) m R1.out.mem)
    have HW : Hid ((wholeOf (k : Int) m xs).length ≤ 30000) := by
      show _ ≤ _
      rw [whole_len, R1.out.len]
      have := (frontOf_sizeO k m (by omega)).2
      omega
    generalize wholeOf (k : Int) m xs = W at *
    have hwl := wrapN_len W
    have hl0 : 0 < l := by omega
    have hl9 : l ≤ 1000000000 := by have := hrow.le; have := rawPack_le W HW.out; have := HW.out; omega
    have hl9b : l ≤ 1000000 := by have := rawPack_le W HW.out; have := HW.out; omega
    obtain ⟨t, htl, et⟩ : ∃ t : Nat, t < l ∧ wrap64 ((IntKind.u64.wrap a2).tmod (l : Int)) = (t : Int) := by
      have h0 : 0 ≤ IntKind.u64.wrap a2 := by rw [IntKind.wrap_u64]; omega
      generalize IntKind.u64.wrap a2 = u at *
      rw [Int.tmod_eq_emod_of_nonneg h0]
      have h1 := Int.emod_nonneg u (show (l : Int) ≠ 0 by omega)
      have h2 := Int.emod_lt_of_pos u (show (0 : Int) < (l : Int) by omega)
      rw [IntWalk.wrap64_in _ (by omega)]
      exact ⟨(u % (l : Int)).toNat, by omega, by omega⟩
    have hu : IntKind.u64.wrap (l : Int) = (l : Int) := by rw [IntKind.wrap_u64]; omega
    have hlne : ¬ (l : Int) = 0 := by omega
    have hlne2 : ¬ l = 0 := by omega
    have HC : Hid (openN ((wrapN W).take t) 16777236 = .error 3) := wrap_cutM HM.out HW.out (by have := HW.out; omega) (by omega)
    have hsl := fun Wd => slice_to va l vc t (by have := hrow.le; omega) Wd
    have HT := Lib.hid htl
    clear hb hrow hl hwl ek
    go_wp2_with fail
    refine (known_env w1 (HEE.out.below HB.out)).mono ?_
    rintro e w2 ⟨rfl, hb⟩
    have HB2 : Hid (Below w.heap.size w w2) := HB.out.trans (hb.mono HB.out.size)
    have HR2 := Lib.hid (HR.out.below hb)
    clear hb HR
    go_wp2_with fail
    refine (openO_any va t vc _ w2 (HR2.out.front t (by have := HT.out; omega)) (by have := HT.out; omega) (HEE.out.below HB2.out)).mono ?_
    rintro e w3 ⟨ho, hb⟩
    have HB3 : Hid (Below w.heap.size w w3) := HB2.out.trans (hb.mono HB2.out.size)
    have he : e = .returned (.tuple #[.int .i64 0, .slice none 0 0, .int .i64 3]) := by
      rcases ho with ⟨q, h1, -, h2⟩ | ⟨q, m', h1, -⟩ | ⟨m', q, ys, h1, -⟩ | ⟨m', q, ys, x1, x2, x3, h1, -⟩
      · rw [HC.out] at h1
        injection h1 with h1
        rw [h2, ← h1]
        rfl
      · rw [HC.out] at h1; cases h1
      · rw [HC.out] at h1; cases h1
      · rw [HC.out] at h1; cases h1
    subst he
    clear hb ho
    go_wp2_with fail
    go_ret
    exact ⟨rfl, HB3.out⟩

def laidRow : List (String × DataW Unit) := [("math/bits.deBruijn32tab", Rows.laid_math_bits_deBruijn32tab), ("math/bits.deBruijn64tab", Rows.laid_math_bits_deBruijn64tab), ("internal/strconv.uint64pow10", Rows.laid_internal_strconv_uint64pow10), ("strconv.ErrRange", Rows.laid_strconv_ErrRange), ("strconv.ErrSyntax", Rows.laid_strconv_ErrSyntax)]
theorem tab_of {W : World} (h : laidMetH Tryz.prog laidRow W) : Lib.TabIs Tryz.prog W "internal/strconv.uint64pow10" .u64 Lib.pow10Tab := by
  rw [MakeChecks.laidMetH_plain _ _ _ (by kernel_rfl)] at h
  exact Lib.tabIs_of_head (g := 3) (t := 177) (e := 39) (n := 20) (by kernel_rfl) (by kernel_rfl) Tryz.underlying177 Tryz.underlying39 (by kernel_rfl) (by kernel_rfl) (laidMet.tail (laidMet.tail h))
theorem row_err (u : TypeId) (h : Tryz.prog.typeName? 3 u = some "*errors.errorString") : u = 181 :=
  have star : "*" ++ "errors.errorString" = "*errors.errorString" := by decide
  typeName_ptr_named (nm := "errors.errorString") (by rw [star]; kernel_rfl) (by kernel_rfl) (by decide) u (by rw [star]; exact h)
theorem vars_of {W : World} (h : laidMetH Tryz.prog laidRow W) : ErrVars W := by
  rw [MakeChecks.laidMetH_plain _ _ _ (by kernel_rfl)] at h
  have h3 := laidMet.tail (laidMet.tail (laidMet.tail h))
  obtain ⟨a0, s0, hv0, -, -, -⟩ := laid_sentinel (g := 2) h3 (by kernel_rfl) (by kernel_rfl) Tryz.underlying73 row_err Tryz.underlying181 Tryz.underlying183 rfl rfl Tryz.underlying9 (by kernel_rfl) (by kernel_rfl)
  obtain ⟨a1, s1, hv1, -, -, -⟩ := laid_sentinel (g := 1) (laidMet.tail h3) (by kernel_rfl) (by kernel_rfl) Tryz.underlying73 row_err Tryz.underlying181 Tryz.underlying183 rfl rfl Tryz.underlying9 (by kernel_rfl) (by kernel_rfl)
  exact ⟨⟨_, _, hv1⟩, ⟨_, _, hv0⟩⟩
/-! ### The row's step -/
theorem door_met {H : Type} {enc : TypeId × Value → H} (os : Os) (args : Array Value) : laidMetH Tryz.prog laidRow ((World.doorLaid Tryz.prog 400 os).forCall (fun _ _ => 0) ⟨#[], args, []⟩).memory :=
  laidMetH_of_parts3 (fuel := 8) (laidMet_of_run' 8 (by kernel_rfl) (by kernel_rfl)) (by kernel_rfl) (by kernel_rfl)
set_option maxRecDepth 100000 in
theorem contract {H : Type} (enc : TypeId × Value → H) (W : World) (base : Nat) (args : Array Value) (ds gs : List (DataW H)) (before : List MemPlace)
    (hval0 : ∀ (j : Nat) t v, Tryz.f6.params[j]? = some t → args[j]? = some v → Value.okWide Tryz.prog W .any base t v) (hW : DataW.Whole enc Tryz.prog Tryz.f6.params.toList Rows.objectCutsSpec.vars false W args.toList ds gs before) (hE : Env W) :
    Calls Tryz.prog 6 args W fun e W' => ∃ v, e = .returned v ∧ Rows.objectCutsSpec.post enc Tryz.prog Tryz.f6 false true false false W args v W' := by
  have hval : ∀ (j : Nat) t v, Tryz.f6.params[j]? = some t → args[j]? = some v → Value.okWide Tryz.prog W .any base t v := hval0
  have hW' := hW
  obtain ⟨p, q, hA0, hV, rfl, hfz, hnd⟩ := hW
  have hA : DataW.TrodAll enc Tryz.prog W 0 (fun _ => true) true Tryz.f6.params.toList args.toList ds p := hA0
  rw [Tryz.params6] at hA hval
  obtain ⟨v0, vs0, d0, ds0, p0, q0, hargs, rfl, rfl, h0, r0⟩ := trodAll_cons hA
  obtain ⟨v1, vs1, d1, ds1, p1, q1, rfl, rfl, rfl, h1, r1⟩ := trodAll_cons r0
  obtain ⟨v2, vs2, d2, ds2, p2, q2, rfl, rfl, rfl, h2, r2⟩ := trodAll_cons r1
  obtain ⟨rfl, rfl, rfl⟩ := trodAll_nil r2
  obtain rfl : args = #[v0, v1, v2] := by cases args; simp_all
  obtain ⟨rfl, rfl⟩ := trodVars_none hV
  obtain ⟨a0, rfl, rfl, rfl, w0⟩ := open_int Tryz.underlying3 (hval 0 3 v0 rfl rfl) h0
  obtain ⟨a1, len1, cap1, rfl⟩ := okWide_slice Tryz.underlying22 (hval 1 22 v1 rfl rfl)
  have k1 := h1
  have lt1 : ∀ x ∈ p1, x.block < W.heap.size := by obtain ⟨m, hm⟩ := k1; exact DataW.trod_lt m _ _ _ hm
  obtain ⟨z1, w1⟩ : ∃ zs, IsRow .u8 W a1 len1 cap1 zs := by
    obtain ⟨fuel, hf⟩ := h1
    rcases open_ints Tryz.underlying22 Tryz.underlying5 (by kernel_rfl) hf with ⟨hcs, _⟩ | ⟨x, l, c, zs, hcs, _, hl, hm, hz, _, hcell, hwz⟩
    · simp [Value.cells] at hcs
      obtain ⟨rfl, rfl, rfl⟩ := hcs
      exact ⟨[], .inl ⟨rfl, rfl, rfl, rfl⟩⟩
    · simp [Value.cells] at hcs
      obtain ⟨rfl, rfl, rfl⟩ := hcs
      exact ⟨zs, .inr ⟨_, rfl, hl, hm, by simpa using hz, hcell, hwz⟩⟩
  obtain ⟨a2, rfl, rfl, rfl, w2⟩ := open_int Tryz.underlying3 (hval 2 3 v2 rfl rfl) h2
  refine (walk a0 a1 len1 cap1 z1 a2 W hE w0 w1 w2).mono fun e W' ⟨he, bel⟩ => ?_
  subst he
  exact ⟨_, rfl, _, _, _, [], _, [], hW', trodAll_mk1 (shut_bool Tryz.underlying4 _), (trodAll_cons_mk (shut_int Tryz.underlying3 w0) (trodAll_cons_mk (Below.trod laidOut (by kernel_rfl) (of_decide_eq_true (by kernel_rfl)) k1 bel lt1) (trodAll_cons_mk (shut_int Tryz.underlying3 w2) trodAll_mk0))), rfl, bel.frame _, fun h => by cases h⟩
set_option maxRecDepth 100000 in
theorem lifted (os : Os) (started : os.Started) (H : Type) (enc : TypeId × Value → H) :
    ReturnsInHanded {} Tryz.checked os 6 .any (fun w args => (Rows.objectCutsSpec.pre enc Tryz.prog Tryz.f6 [] false w args ∧ laidMetH Tryz.prog laidRow w) ∧ sizedMet enc Tryz.prog Tryz.f6 (OpenSpec.ofChange Rows.objectCutsSpec) false w args) (Rows.objectCutsSpec.post enc Tryz.prog Tryz.f6 false true false false) := by
  refine returnsInHanded_of_calls own started (by kernel_rfl)
    (ChangeSpec.witness_shaped (enc := enc) (C := Tryz.checked) (os := os) (X := fun w _ => laidMetH Tryz.prog laidRow w) false (World.doorLaid Tryz.prog 400 os) #[.int .i64 0, .slice none 0 0, .int .i64 0] 8 rfl (World.shaped_of_RefB (by kernel_rfl) (by kernel_rfl)) (by kernel_rfl) (by kernel_rfl) (by kernel_rfl) (door_met (enc := enc) os _)) ?_
  intro w tape inp _ hsh _ hok hpre _
  obtain ⟨_, _, _, fn', hfn', _, _, _, _, hval⟩ := hok
  obtain rfl : fn' = Tryz.f6 := Option.some.inj (hfn'.symm.trans Tryz.func6)
  obtain ⟨⟨⟨ds, gs, before, hw, -⟩, hx⟩, -⟩ := hpre
  have hL : laidMetH Tryz.prog laidRow (w.forCall tape inp) := laidMetH.of_heap (w' := w.forCall tape inp) (by rfl) hx
  have hmx : ∃ m, (w.forCall tape inp).cell? ⟨0, 0, none⟩ = some (.int .i64 m) :=
    Go.Proofs.cell_of_shapedOpen_int (zero := #[.int .i64 0]) (t := 3) hsh (of_decide_eq_true (by kernel_rfl)) (by kernel_rfl) rfl (by kernel_rfl) (by kernel_rfl) Tryz.underlying3
  refine (contract enc (w.forCall tape inp) w.heap.size inp.args ds gs before hval (DataW.Whole.of_heap (w' := w.forCall tape inp) (by rfl) hw) ⟨tab_of hL, vars_of hL, hmx⟩).mono fun e W' ⟨v, he, hp⟩ => ?_
  subst he
  exact ChangeSpec.post_blind hp

theorem over : Rows.objectCutsRow.holds Tryz.pinned (OpenSpec.ofChange Rows.objectCutsSpec) :=
  OpenClaim.holds_of_wide 6 Tryz.f6 rfl rfl rfl rfl rfl rfl rfl ⟨rfl, rfl, rfl, rfl, rfl⟩ rfl rfl rfl rfl rfl (by kernel_rfl) Tryz.func6 (by kernel_rfl)
    (of_decide_eq_true (by kernel_rfl)) (by unfold Func.isWrapper; first | (rw [if_pos (by decide +kernel)]; kernel_rfl) | (rw [if_neg (by decide +kernel)]; exact ⟨rfl, rfl⟩))
    (fun os started H enc _ => lifted os started H enc)

/-- The statement. -/
theorem proved : Rows.ObjectCutsCardSaid :=
  Claim7.holds_tied_plain_at .later [] [.data, .data, .data, .sentinel, .sentinel] true (true, "b95025a5ac34b7adccb8c9fa495b33d5fc5bd1cfed78c40ba2be93632e88b4b6") true
    over (fun _ h => by cases h) (by kernel_rfl) (fun _ h => by cases h) objectCuts_row_tie rfl ⟨rfl, rfl⟩ (by kernel_rfl) rfl
    (fun f fn hf hfn => by
      obtain rfl : f = 6 := Option.some.inj ((show Tryz.prog.funcNamed "tramway/tramwaylaw09.ObjectCuts" = some 6 by kernel_rfl).symm.trans hf) |>.symm
      obtain rfl : fn = Tryz.f6 := (Option.some.inj (Tryz.func6.symm.trans hfn)).symm
      exact ⟨by kernel_rfl, fun j t ht => by
        rw [Tryz.params6] at ht
        have hm : t ∈ [3, 22, 3] := by simpa using Array.mem_of_getElem? ht
        have hall : ([3, 22, 3].all fun u => !Tryz.prog.wantsStandIn u) = true := by kernel_rfl
        exact (show Tryz.prog.wantsStandIn t = false by simpa using List.all_eq_true.1 hall t hm)⟩)
    (by kernel_rfl)
#print axioms proved
end Go.Proofs.YtglgchjkonjpiaaGreatDoor.objectCuts
