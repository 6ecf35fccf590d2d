/- The program's statement ObjectFronts holds: for every input it returns true and leaves its arguments as they were. No further condition. -/
import Derived.Test.YtglgchjkonjpiaaGreatDoorRows
import Derived.Test.YtglgchjkonjpiaaGreatDoorCards
import Derived.Test.YtglgchjkonjpiaaGreatDoorTie
import Derived.LaidMore
import Derived.Stop.Joined
import Derived.Stop.LaidErr
import Derived.SevenTiedAt
import Derived.Lib.LaidTab
import Derived.Shelf.Vars
import Derived.WalkSmall
import Derived.WalkKit
import Derived.ProofKit
import Derived.OpenShut
import Derived.ShutString
import Derived.ChangeOld
import Derived.Below
import Derived.StillTailTactics
import Derived.Deep.RegionHeld3
import Derived.Deep.AppendLies
import Derived.StillTactics
import Derived.Deep.RegionWith
import Derived.WalkSpells
import Derived.Outline
import Derived.Test.YtglgchjkonjpiaaGreatDoorBothO
namespace Go.Proofs.YtglgchjkonjpiaaGreatDoor.objectFronts
open Go.ChangeShapes Go.WideShapes Go.ChangeAt Go.RowKit
open Go.ChangeMaps (open_string shut_string)
set_option linter.unusedVariables false

theorem own : ownKnob Tryz.prog.godebug = none := by kernel_rfl
theorem laidOut : laidOutB Tryz.prog = true := by kernel_rfl

/-- A slice of integers that came in: nil, or a row of cells. -/
def IsRow (k : IntKind) (w : World) (a : Option Addr) (len cap : Nat) (zs : List Int) : Prop :=
  (a = none ∧ len = 0 ∧ cap = 0 ∧ zs = []) ∨
  ∃ x, a = some x ∧ len ≤ cap ∧ cap ≤ maxLen ∧ zs.length = cap ∧ (∀ i, i < zs.length → w.cell? (x.add i) = some (.int k (zs.getD i 0))) ∧ ∀ n ∈ zs, (Lit.int k n).wf = true
open Plain
/-! ### The walk -/
set_option maxRecDepth 100000 in
set_option maxHeartbeats 16000000 in
theorem walk (s0 : ByteArray) (a1 : Option Addr) (len1 cap1 : Nat) (z1 : List Int) (w : World) (hE : Env w) (w0 : s0.size ≤ maxLen) (w1 : IsRow .u8 w a1 len1 cap1 z1) :
    Calls Tryz.prog 5 #[.string s0, .slice a1 len1 cap1] w fun e w' => e = .returned (.bool true) ∧ Below w.heap.size w w' := by
  obtain ⟨hr1, hlc1, hcm1⟩ := row_in w1 600
  obtain ⟨m, hm⟩ : ∃ m, min len1 600 = m := ⟨_, rfl⟩
  have k0 : m ≤ 600 := by omega
  rw [hm] at hr1
  have R1 := Lib.hid hr1
  have HEE := Lib.hid hE
  have HF := Lib.hid (few_any a1 len1 cap1 m hm hlc1 hcm1)
  obtain ⟨p, hp⟩ : ∃ p, min s0.size 200 = p := ⟨_, rfl⟩
  have hpi : min (s0.size : Int) 200 = (p : Int) := by omega
  have hp1 : p ≤ s0.size := by omega
  have hp2 : p ≤ 200 := by omega
  have hmin := fun (ts : Array TypeId) (t : TypeId) (W : World) => run_min2 (P := Tryz.prog) ts t .i64 .i64 (s0.size : Int) 200 W
  rw [hpi] at hmin
  clear hE w1 hr1 hm hlc1 hcm1 hp hpi
  generalize (z1.take len1).take 600 = xs at *
  have HXL : Hid (xs.length = m) := R1.out.len
  go_enter Tryz.func5, Tryz.ntmps5
  go_wp2_with fail
  refine (HF.out _).mono ?_
  rintro e w' ⟨rfl, hw⟩
  have hw2 := hw.symm
  subst hw2
  clear hw
  have hfs : (s0.extract 0 p).size = p := by rw [ByteArray.size_extract]; omega
  obtain ⟨F, hF⟩ : ∃ F, s0.extract 0 p = F := ⟨_, rfl⟩
  rw [hF] at hfs
  obtain ⟨c0, hcv, hmid⟩ := mid_text w F (by omega)
  rw [hfs] at hcv hmid
  have HB0 : Hid (Below w.heap.size w (Lib.bytesWorld w 5 F)) := Lib.bytesWorld_below w _ _
  have HM0 := Lib.hid hmid
  have HFB := Lib.hid (numsOf_bytes F)
  have HFL : Hid ((numsOf F).length = p) := by show _ = _; rw [numsOf_length, hfs]
  clear hmid
  generalize Lib.bytesWorld w 5 F = W0 at *
  generalize numsOf F = fl at *
  have tok : True := trivial
  go_wp2_with (
    have _t := tok
    at_builtin
    refine wpList_append_to rfl _ _ 22 rfl w.heap.size (.slice (some ⟨w.heap.size, 0, none⟩) p c0) p fl rfl HM0.out _ m xs rfl (src_bytes (R1.out.below HB0.out).bytes) (p + m) (fl ++ xs) rfl rfl (by omega) HB0.out.size ?_
    intro pa pc p2 hm hb
    have HM1 := Lib.hid hm
    have HB1 : Hid (Below w.heap.size w p2) := HB0.out.trans hb
    clear tok hm hb HM0 HB0
    refine Hid.out ?_)
  refine unhid ?_
  have HMEM : Hid (∀ x ∈ fl ++ xs, 0 ≤ x ∧ x ≤ 255) := fun x hx => by
    rcases List.mem_append.1 hx with hx | hx
    · exact HFB.out x hx
    · exact R1.out.mem x hx
  have HWLN : Hid ((fl ++ xs).length = p + m) := by show _ = _; rw [List.length_append, HFL.out, HXL.out]
  have HP := Lib.hid (HM1.out.row (range_of_mem0 HMEM.out))
  clear HM1 hF hmin hfs hcv HFB R1 HF
  generalize fl ++ xs = W at *
  obtain ⟨t, ht⟩ : ∃ t, p + m = t := ⟨_, rfl⟩
  rw [ht] at HP HWLN ⊢
  have ht8 : t ≤ 800 := by omega
  clear ht
  have HWR := Lib.hid (fun Wd (h : RowB Wd pa t pc W) => wrap_any pa t pc W Wd h (by omega))
  have HOK : Hid (openN (wrapN W) 16777236 = openN (wrapN W) 100000) := by
    have h1 := wrap_openM HMEM.out (by have := HWLN.out; omega) (M := 16777236) (by have := HWLN.out; omega) [] (by simp)
    have h2 := wrap_openM HMEM.out (by have := HWLN.out; omega) (M := 100000) (by have := HWLN.out; omega) [] (by simp)
    rw [List.append_nil] at h1 h2
    show _ = _
    rw [h1, h2]
  have hvl : (wrapN W).length ≤ 100000 := by have := rawPack_le W (by have := HWLN.out; omega); have := HWLN.out; have := wrapN_len W; omega
  obtain ⟨vl, hvl2⟩ : ∃ vl, (wrapN W).length = vl := ⟨_, rfl⟩
  rw [hvl2] at HWR hvl
  generalize wrapN W = V at *
  clear hvl2
  go_wp2_with fail
  refine (HWR.out p2 HP.out).mono ?_
  rintro e w1 ⟨⟨va, vc, rfl, hrow, -⟩, hb⟩
  have HB2 : Hid (Below w.heap.size w w1) := HB1.out.trans (hb.mono HB1.out.size)
  have HP1 := Lib.hid (HP.out.below hb)
  have HV := Lib.hid hrow
  clear hb hrow HP HB1
  go_wp2_with fail
  refine (openO_any va vl vc V w1 HV.out (by omega) (HEE.out.below HB2.out)).mono ?_
  rintro e w2 ⟨ho, hb⟩
  obtain ⟨k, ya, yl, yc, er, rfl⟩ := openO_shape ho
  have HO := Lib.hid ho
  have HB3 : Hid (Below w.heap.size w w2) := HB2.out.trans (hb.mono HB2.out.size)
  have HP2 := Lib.hid (HP1.out.below hb)
  clear ho hb HV HP1
  go_wp2_with fail
  refine (HWR.out w2 HP2.out).mono ?_
  rintro e w3 ⟨⟨ua, uc, rfl, hrow, -⟩, hb⟩
  have HB4 : Hid (Below w.heap.size w w3) := HB3.out.trans (hb.mono HB3.out.size)
  have HBB : Hid (Below w2.heap.size w2 w3) := hb
  have HU := Lib.hid hrow
  clear hb hrow HP2
  go_wp2_with fail
  refine (refO_any ua vl uc V w3 HU.out (by omega)).mono ?_
  rintro e w4 ⟨hr, hb⟩
  obtain ⟨zs, za, zl, zc, rfl, hy, hz⟩ := both_same HO.out hr HOK.out
  have HY := Lib.hid ((hy.below HBB.out).below hb)
  have HZ := Lib.hid hz
  have HB5 : Hid (Below w.heap.size w w4) := HB4.out.trans (hb.mono HB4.out.size)
  clear hr hb hy hz HO HU HBB
  go_wp2_with fail
  refine (known_env w4 (HEE.out.below HB5.out)).mono ?_
  rintro e w5 ⟨rfl, hb⟩
  have t1 := text_run w5 ya yl yc zs (HY.out.below hb).bytes
  have t2 := text_run w5 za zl zc zs (HZ.out.below hb).bytes
  have HB6 : Hid (Below w.heap.size w w5) := HB5.out.trans (hb.mono HB5.out.size)
  clear hb HY HZ
  generalize strOfNums zs = sz at *
  go_wp2_with fail
  go_ret
  exact ⟨rfl, HB6.out⟩

def laidRow : List (String × DataW Unit) := [("math/bits.deBruijn32tab", Rows.laid_math_bits_deBruijn32tab), ("math/bits.deBruijn64tab", Rows.laid_math_bits_deBruijn64tab), ("internal/strconv.uint64pow10", Rows.laid_internal_strconv_uint64pow10), ("strconv.ErrRange", Rows.laid_strconv_ErrRange), ("strconv.ErrSyntax", Rows.laid_strconv_ErrSyntax)]
theorem tab_of {W : World} (h : laidMetH Tryz.prog laidRow W) : Lib.TabIs Tryz.prog W "internal/strconv.uint64pow10" .u64 Lib.pow10Tab := by
  rw [MakeChecks.laidMetH_plain _ _ _ (by kernel_rfl)] at h
  exact Lib.tabIs_of_head (g := 3) (t := 177) (e := 39) (n := 20) (by kernel_rfl) (by kernel_rfl) Tryz.underlying177 Tryz.underlying39 (by kernel_rfl) (by kernel_rfl) (laidMet.tail (laidMet.tail h))
theorem row_err (u : TypeId) (h : Tryz.prog.typeName? 3 u = some "*errors.errorString") : u = 181 :=
  have star : "*" ++ "errors.errorString" = "*errors.errorString" := by decide
  typeName_ptr_named (nm := "errors.errorString") (by rw [star]; kernel_rfl) (by kernel_rfl) (by decide) u (by rw [star]; exact h)
theorem vars_of {W : World} (h : laidMetH Tryz.prog laidRow W) : ErrVars W := by
  rw [MakeChecks.laidMetH_plain _ _ _ (by kernel_rfl)] at h
  have h3 := laidMet.tail (laidMet.tail (laidMet.tail h))
  obtain ⟨a0, s0, hv0, -, -, -⟩ := laid_sentinel (g := 2) h3 (by kernel_rfl) (by kernel_rfl) Tryz.underlying73 row_err Tryz.underlying181 Tryz.underlying183 rfl rfl Tryz.underlying9 (by kernel_rfl) (by kernel_rfl)
  obtain ⟨a1, s1, hv1, -, -, -⟩ := laid_sentinel (g := 1) (laidMet.tail h3) (by kernel_rfl) (by kernel_rfl) Tryz.underlying73 row_err Tryz.underlying181 Tryz.underlying183 rfl rfl Tryz.underlying9 (by kernel_rfl) (by kernel_rfl)
  exact ⟨⟨_, _, hv1⟩, ⟨_, _, hv0⟩⟩
/-! ### The row's step -/
theorem door_met {H : Type} {enc : TypeId × Value → H} (os : Os) (args : Array Value) : laidMetH Tryz.prog laidRow ((World.doorLaid Tryz.prog 400 os).forCall (fun _ _ => 0) ⟨#[], args, []⟩).memory :=
  laidMetH_of_parts3 (fuel := 8) (laidMet_of_run' 8 (by kernel_rfl) (by kernel_rfl)) (by kernel_rfl) (by kernel_rfl)
set_option maxRecDepth 100000 in
theorem contract {H : Type} (enc : TypeId × Value → H) (W : World) (base : Nat) (args : Array Value) (ds gs : List (DataW H)) (before : List MemPlace)
    (hval0 : ∀ (j : Nat) t v, Tryz.f5.params[j]? = some t → args[j]? = some v → Value.okWide Tryz.prog W .any base t v) (hW : DataW.Whole enc Tryz.prog Tryz.f5.params.toList Rows.objectFrontsSpec.vars false W args.toList ds gs before) (hE : Env W) :
    Calls Tryz.prog 5 args W fun e W' => ∃ v, e = .returned v ∧ Rows.objectFrontsSpec.post enc Tryz.prog Tryz.f5 false true false false W args v W' := by
  have hval : ∀ (j : Nat) t v, Tryz.f5.params[j]? = some t → args[j]? = some v → Value.okWide Tryz.prog W .any base t v := hval0
  have hW' := hW
  obtain ⟨p, q, hA0, hV, rfl, hfz, hnd⟩ := hW
  have hA : DataW.TrodAll enc Tryz.prog W 0 (fun _ => true) true Tryz.f5.params.toList args.toList ds p := hA0
  rw [Tryz.params5] at hA hval
  obtain ⟨v0, vs0, d0, ds0, p0, q0, hargs, rfl, rfl, h0, r0⟩ := trodAll_cons hA
  obtain ⟨v1, vs1, d1, ds1, p1, q1, rfl, rfl, rfl, h1, r1⟩ := trodAll_cons r0
  obtain ⟨rfl, rfl, rfl⟩ := trodAll_nil r1
  obtain rfl : args = #[v0, v1] := by cases args; simp_all
  obtain ⟨rfl, rfl⟩ := trodVars_none hV
  obtain ⟨s0, rfl, rfl, rfl, w0⟩ := open_string Tryz.underlying9 (hval 0 9 v0 rfl rfl) h0
  obtain ⟨a1, len1, cap1, rfl⟩ := okWide_slice Tryz.underlying22 (hval 1 22 v1 rfl rfl)
  have k1 := h1
  have lt1 : ∀ x ∈ p1, x.block < W.heap.size := by obtain ⟨m, hm⟩ := k1; exact DataW.trod_lt m _ _ _ hm
  obtain ⟨z1, w1⟩ : ∃ zs, IsRow .u8 W a1 len1 cap1 zs := by
    obtain ⟨fuel, hf⟩ := h1
    rcases open_ints Tryz.underlying22 Tryz.underlying5 (by kernel_rfl) hf with ⟨hcs, _⟩ | ⟨x, l, c, zs, hcs, _, hl, hm, hz, _, hcell, hwz⟩
    · simp [Value.cells] at hcs
      obtain ⟨rfl, rfl, rfl⟩ := hcs
      exact ⟨[], .inl ⟨rfl, rfl, rfl, rfl⟩⟩
    · simp [Value.cells] at hcs
      obtain ⟨rfl, rfl, rfl⟩ := hcs
      exact ⟨zs, .inr ⟨_, rfl, hl, hm, by simpa using hz, hcell, hwz⟩⟩
  refine (walk s0 a1 len1 cap1 z1 W hE w0 w1).mono fun e W' ⟨he, bel⟩ => ?_
  subst he
  exact ⟨_, rfl, _, _, _, [], _, [], hW', trodAll_mk1 (shut_bool Tryz.underlying4 _), (trodAll_cons_mk (shut_string Tryz.underlying9 w0) (trodAll_cons_mk (Below.trod laidOut (by kernel_rfl) (of_decide_eq_true (by kernel_rfl)) k1 bel lt1) trodAll_mk0)), rfl, bel.frame _, fun h => by cases h⟩
set_option maxRecDepth 100000 in
theorem lifted (os : Os) (started : os.Started) (H : Type) (enc : TypeId × Value → H) :
    ReturnsInHanded {} Tryz.checked os 5 .any (fun w args => (Rows.objectFrontsSpec.pre enc Tryz.prog Tryz.f5 [] false w args ∧ laidMetH Tryz.prog laidRow w) ∧ sizedMet enc Tryz.prog Tryz.f5 (OpenSpec.ofChange Rows.objectFrontsSpec) false w args) (Rows.objectFrontsSpec.post enc Tryz.prog Tryz.f5 false true false false) := by
  refine returnsInHanded_of_calls own started (by kernel_rfl)
    (ChangeSpec.witness_shaped (enc := enc) (C := Tryz.checked) (os := os) (X := fun w _ => laidMetH Tryz.prog laidRow w) false (World.doorLaid Tryz.prog 400 os) #[.string ⟨#[]⟩, .slice none 0 0] 8 rfl (World.shaped_of_RefB (by kernel_rfl) (by kernel_rfl)) (by kernel_rfl) (by kernel_rfl) (by kernel_rfl) (door_met (enc := enc) os _)) ?_
  intro w tape inp _ hsh _ hok hpre _
  obtain ⟨_, _, _, fn', hfn', _, _, _, _, hval⟩ := hok
  obtain rfl : fn' = Tryz.f5 := Option.some.inj (hfn'.symm.trans Tryz.func5)
  obtain ⟨⟨⟨ds, gs, before, hw, -⟩, hx⟩, -⟩ := hpre
  have hL : laidMetH Tryz.prog laidRow (w.forCall tape inp) := laidMetH.of_heap (w' := w.forCall tape inp) (by rfl) hx
  have hmx : ∃ m, (w.forCall tape inp).cell? ⟨0, 0, none⟩ = some (.int .i64 m) :=
    Go.Proofs.cell_of_shapedOpen_int (zero := #[.int .i64 0]) (t := 3) hsh (of_decide_eq_true (by kernel_rfl)) (by kernel_rfl) rfl (by kernel_rfl) (by kernel_rfl) Tryz.underlying3
  refine (contract enc (w.forCall tape inp) w.heap.size inp.args ds gs before hval (DataW.Whole.of_heap (w' := w.forCall tape inp) (by rfl) hw) ⟨tab_of hL, vars_of hL, hmx⟩).mono fun e W' ⟨v, he, hp⟩ => ?_
  subst he
  exact ChangeSpec.post_blind hp

theorem over : Rows.objectFrontsRow.holds Tryz.pinned (OpenSpec.ofChange Rows.objectFrontsSpec) :=
  OpenClaim.holds_of_wide 5 Tryz.f5 rfl rfl rfl rfl rfl rfl rfl ⟨rfl, rfl, rfl, rfl, rfl⟩ rfl rfl rfl rfl rfl (by kernel_rfl) Tryz.func5 (by kernel_rfl)
    (of_decide_eq_true (by kernel_rfl)) (by unfold Func.isWrapper; first | (rw [if_pos (by decide +kernel)]; kernel_rfl) | (rw [if_neg (by decide +kernel)]; exact ⟨rfl, rfl⟩))
    (fun os started H enc _ => lifted os started H enc)

/-- The statement. -/
theorem proved : Rows.ObjectFrontsCardSaid :=
  Claim7.holds_tied_plain_at .later [] [.data, .data, .data, .sentinel, .sentinel] true (true, "b95025a5ac34b7adccb8c9fa495b33d5fc5bd1cfed78c40ba2be93632e88b4b6") true
    over (fun _ h => by cases h) (by kernel_rfl) (fun _ h => by cases h) objectFronts_row_tie rfl ⟨rfl, rfl⟩ (by kernel_rfl) rfl
    (fun f fn hf hfn => by
      obtain rfl : f = 5 := Option.some.inj ((show Tryz.prog.funcNamed "tramway/tramwaylaw09.ObjectFronts" = some 5 by kernel_rfl).symm.trans hf) |>.symm
      obtain rfl : fn = Tryz.f5 := (Option.some.inj (Tryz.func5.symm.trans hfn)).symm
      exact ⟨by kernel_rfl, fun j t ht => by
        rw [Tryz.params5] at ht
        have hm : t ∈ [9, 22] := by simpa using Array.mem_of_getElem? ht
        have hall : ([9, 22].all fun u => !Tryz.prog.wantsStandIn u) = true := by kernel_rfl
        exact (show Tryz.prog.wantsStandIn t = false by simpa using List.all_eq_true.1 hall t hm)⟩)
    (by kernel_rfl)
#print axioms proved
end Go.Proofs.YtglgchjkonjpiaaGreatDoor.objectFronts
