/- The law TransApart. -/
import Derived.Test.YtkpiinjhcckhfaaGreatDoorTrRSC
import Derived.Test.YtkpiinjhcckhfaaGreatDoorTrRSX
import Derived.Deep.Cut
namespace Go.Proofs.YtkpiinjhcckhfaaGreatDoor
open Go.RowKit Plain Go.ChangeShapes Go.WideShapes Go.ChangeAt Go.Great
set_option linter.unusedVariables false
set_option linter.unusedSimpArgs false
/-- What Change hands back, in one shape. -/
def XOne (W : World) (o : Option CX) (Y : CX) (sv : Value) (ec : Int) : Prop := (o = some Y ∧ ec = 0 ∧ Y.n = zeros20 ∧ Y.fs = [] ∧ ∃ ya yc, sv = .slice ya Y.xs.length yc ∧ RowAt 2 extE W ya Y.xs) ∨ (o = none ∧ ec = 4)
theorem XRes.one {B : Nat} {e : Ending} {W : World} {o : Option CX} (h : XRes B e W o) : ∃ Y sv ec, e = .returned (.tuple #[.agg (chA Y sv (.slice none 0 0)), .int .i64 ec]) ∧ Y.n.length = 20 ∧ sv.oneCell' = true ∧ XOne W o Y sv ec := by
  cases o with
  | none => exact ⟨czero, _, 4, h, czero_20, rfl, .inr ⟨rfl, rfl⟩⟩
  | some Y =>
    obtain ⟨ya, yc, h1, h2, h3, h4⟩ := h
    exact ⟨Y, _, 0, h1, by rw [h2]; exact zeros_20, rfl, .inl ⟨rfl, rfl, h2, h3, ya, yc, rfl, h4.row⟩⟩
theorem XOne.below {W W' : World} {o : Option CX} {Y : CX} {sv : Value} {ec : Int} (h : XOne W o Y sv ec) (hb : Below W.heap.size W W') : XOne W' o Y sv ec := by
  rcases h with ⟨h1, h2, h3, h4, ya, yc, h5, h6⟩ | h
  · exact .inl ⟨h1, h2, h3, h4, ya, yc, h5, h6.below hb⟩
  · exact .inr h
def COne (W : World) (o : Option CC) (Y : CC) (pv sv : Value) (ec : Int) : Prop := (o = some Y ∧ ec = 0 ∧ Y.tr = zeros20 ∧ Y.ps = [] ∧ ∃ pa pc ya yc, pv = .slice pa 0 pc ∧ sv = .slice ya Y.xs.length yc ∧ RowAt 2 extE W ya Y.xs) ∨ (o = none ∧ ec = 4)
theorem CRes.one {B : Nat} {e : Ending} {W : World} {o : Option CC} (h : CRes B e W o) : ∃ Y pv sv ec, e = .returned (.tuple #[.agg (coA Y pv sv), .int .i64 ec]) ∧ Y.tr.length = 20 ∧ (pv.oneCell' = true ∧ sv.oneCell' = true) ∧ COne W o Y pv sv ec := by
  cases o with
  | none => exact ⟨cz, _, _, 4, h, cz_20, ⟨rfl, rfl⟩, .inr ⟨rfl, rfl⟩⟩
  | some Y =>
    obtain ⟨pa, pc, ya, yc, h1, h2, h3, h4⟩ := h
    exact ⟨Y, _, _, 0, h1, by rw [h2]; exact zeros_20, ⟨rfl, rfl⟩, .inl ⟨rfl, rfl, h2, h3, pa, pc, ya, yc, rfl, rfl, h4.row⟩⟩
theorem COne.below {W W' : World} {o : Option CC} {Y : CC} {pv sv : Value} {ec : Int} (h : COne W o Y pv sv ec) (hb : Below W.heap.size W W') : COne W' o Y pv sv ec := by
  rcases h with ⟨h1, h2, h3, h4, pa, pc, ya, yc, h5, h6, h7⟩ | h
  · exact .inl ⟨h1, h2, h3, h4, pa, pc, ya, yc, h5, h6, h7.below hb⟩
  · exact .inr h
theorem chV_bare {Y : CX} (h : Y.fs = []) (a b : Option Addr) (c d : Nat) : chV Y a c b d = chA Y (.slice a Y.xs.length c) (.slice b 0 d) := by unfold chV; rw [h]; rfl
theorem coV_bare {y : CC} (h : y.ps = []) (pa : Option Addr) (pc : Nat) (a : Option Addr) (c : Nat) : coV y pa pc a c = coA y (.slice pa 0 pc) (.slice a y.xs.length c) := by unfold coV; rw [h]; rfl
/-- Unlike ones have unlike ones. -/
theorem apart_ch {A B : CC} {X Y : CX} (hx : chY A = some X) (hy : chY B = some Y) (h1 : X.n = zeros20) (h2 : X.fs = []) (h3 : Y.n = zeros20) (h4 : Y.fs = []) : decide (sameXB X Y) = decide (sameCB (aloneC A) (aloneC B)) := by
  have e1 : sameXB X Y ↔ X = Y := by
    have e := same_own (y := X) (x := Y) h1 h2
    rw [show sameXB X (ownX Y) = sameXB X Y from rfl] at e
    rw [e]
    have : ownX Y = Y := by
      obtain ⟨n, u, t, z, xs, fs, d⟩ := Y
      simp only at h3 h4
      subst h3 h4
      rfl
    rw [this]
  have e2 : sameCB (aloneC A) (aloneC B) ↔ aloneC A = aloneC B := same_alone (y := aloneC A) (c := B) rfl rfl
  rw [Bool.eq_iff_iff, decide_eq_true_eq, decide_eq_true_eq, e1, e2]
  constructor
  · intro h
    have k1 := chY_back hx
    have k2 := chY_back hy
    rw [h, k2] at k1
    exact (Option.some.inj k1).symm
  · intro h
    rw [← chY_alone, h, chY_alone, hy] at hx
    exact (Option.some.inj hx).symm
theorem apart_co {A B : CX} {X Y : CC} (hx : coY A = some X) (hy : coY B = some Y) (h1 : X.tr = zeros20) (h2 : X.ps = []) (h3 : Y.tr = zeros20) (h4 : Y.ps = []) : decide (sameCB X Y) = decide (sameXB (ownX A) (ownX B)) := by
  have e1 : sameCB X Y ↔ X = Y := by
    have e := same_alone (y := X) (c := Y) h1 h2
    rw [show sameCB X (aloneC Y) = sameCB X Y from rfl] at e
    rw [e]
    have : aloneC Y = Y := by
      obtain ⟨tr, ps, a, b, xs, m⟩ := Y
      simp only at h3 h4
      subst h3 h4
      rfl
    rw [this]
  have e2 : sameXB (ownX A) (ownX B) ↔ ownX A = ownX B := same_own (y := ownX A) (x := B) rfl rfl
  rw [Bool.eq_iff_iff, decide_eq_true_eq, decide_eq_true_eq, e1, e2]
  constructor
  · intro h
    have k1 := coY_back hx
    have k2 := coY_back hy
    rw [h, k2] at k1
    exact (Option.some.inj k1).symm
  · intro h
    rw [← coY_own, h, coY_own, hy] at hx
    exact (Option.some.inj hx).symm
theorem neq_bool (b : Bool) (W : World) : (binOp .neq 4 (.bool b) (.bool b)).run Tryz.prog W = .ok (.bool false) W := by
  cases b <;> simp [binOp, go_sem, run_equal_bool _ _ _ _ Tryz.underlying4]
theorem guard_neqb (x y : Operand) (s t : Bool) (W : World) : (eqGuard .neq 4 x y (.bool s) (.bool t)).run Tryz.prog W = .ok () W := by simp [eqGuard]
set_option maxRecDepth 100000 in
set_option maxHeartbeats 64000000 in
theorem transapart_any (c1 : CC) (a1 : Option Addr) (b1 : Nat) (d1 : Option Addr) (e1 : Nat) (c2 : CC) (a2 : Option Addr) (b2 : Nat) (d2 : Option Addr) (e2 : Nat) (x1 : CX) (f1 : Option Addr) (g1 : Nat) (h1 : Option Addr) (i1 : Nat) (x2 : CX) (f2 : Option Addr) (g2 : Nat) (h2 : Option Addr) (i2 : Nat) (w : World) (hE : EnvC w) (k1 : InCo w c1 a1 d1) (k2 : InCo w c2 a2 d2) (k3 : InCh w x1 f1 h1) (k4 : InCh w x2 f2 h2) :
    Calls Tryz.prog 8 #[.agg (coV c1 a1 b1 d1 e1), .agg (coV c2 a2 b2 d2 e2), .agg (chV x1 f1 g1 h1 i1), .agg (chV x2 f2 g2 h2 i2)] w fun e w' => e = .returned (.bool true) ∧ Below w.heap.size w w' := by
  have HE := Lib.hid hE
  have HI0 := Lib.hid k1
  have HI1 := Lib.hid k2
  have HI2 := Lib.hid k3
  have HI3 := Lib.hid k4
  have HT0 := Lib.hid (tc_few k1)
  have HT1 := Lib.hid (tc_few k2)
  have HT2 := Lib.hid (tx_few k3)
  have HT3 := Lib.hid (tx_few k4)
  have HY0 : Hid (∀ Y, chY (fewCC c1) = some Y → TX Y) := fun Y hy => chY_few k1 hy
  have HY1 : Hid (∀ Y, chY (fewCC c2) = some Y → TX Y) := fun Y hy => chY_few k2 hy
  have HY2 : Hid (∀ Y, coY (fewC x1) = some Y → TC Y) := fun Y hy => coY_few k3 hy
  have HY3 : Hid (∀ Y, coY (fewC x2) = some Y → TC Y) := fun Y hy => coY_few k4 hy
  have HL0 : Hid ((fewCC c1).ps.length ≤ 100000 ∧ (fewCC c1).xs.length ≤ 100000) := by have h := few_sizes k1; exact ⟨by omega, by omega⟩
  have HL1 : Hid ((fewCC c2).ps.length ≤ 100000 ∧ (fewCC c2).xs.length ≤ 100000) := by have h := few_sizes k2; exact ⟨by omega, by omega⟩
  have HL2 : Hid ((fewC x1).fs.length ≤ 100000 ∧ (fewC x1).xs.length ≤ 100000) := by have h := few_sizesX k3; exact ⟨by omega, by omega⟩
  have HL3 : Hid ((fewC x2).fs.length ≤ 100000 ∧ (fewC x2).xs.length ≤ 100000) := by have h := few_sizesX k4; exact ⟨by omega, by omega⟩
  have HN0 := Lib.hid k1.at_.n20
  have HN1 := Lib.hid k2.at_.n20
  have HN2 := Lib.hid k3.n20
  have HN3 := Lib.hid k4.n20
  have hzc := zero_ch
  have hzo := zero_co
  clear hE k1 k2 k3 k4
  have HB_0 : Hid (Below w.heap.size w ((((w.alloc (.cells (coV c1 a1 b1 d1 e1) 28)).alloc (.cells (coV c2 a2 b2 d2 e2) 28)).alloc (.cells (chV x1 f1 g1 h1 i1) 49)).alloc (.cells (chV x2 f2 g2 h2 i2) 49))) := ((((Below.refl _ _).alloc (Nat.le_refl _) _).alloc (by simp) _).alloc (by simp; omega) _).alloc (by simp; omega) _
  have HP0_0 : Hid (Box ((((w.alloc (.cells (coV c1 a1 b1 d1 e1) 28)).alloc (.cells (coV c2 a2 b2 d2 e2) 28)).alloc (.cells (chV x1 f1 g1 h1 i1) 49)).alloc (.cells (chV x2 f2 g2 h2 i2) 49)) w.heap.size (coV c1 a1 b1 d1 e1) 28) := by
    have h := Box.new w (coV c1 a1 b1 d1 e1) 28
    exact Box.alloc (Box.alloc (Box.alloc (h) _) _) _
  have HP1_0 : Hid (Box ((((w.alloc (.cells (coV c1 a1 b1 d1 e1) 28)).alloc (.cells (coV c2 a2 b2 d2 e2) 28)).alloc (.cells (chV x1 f1 g1 h1 i1) 49)).alloc (.cells (chV x2 f2 g2 h2 i2) 49)) (w.heap.size + 1) (coV c2 a2 b2 d2 e2) 28) := by
    have h := Box.new (w.alloc (.cells (coV c1 a1 b1 d1 e1) 28)) (coV c2 a2 b2 d2 e2) 28
    rw [show (w.alloc (.cells (coV c1 a1 b1 d1 e1) 28)).heap.size = w.heap.size + 1 by simp] at h
    exact Box.alloc (Box.alloc (h) _) _
  have HP2_0 : Hid (Box ((((w.alloc (.cells (coV c1 a1 b1 d1 e1) 28)).alloc (.cells (coV c2 a2 b2 d2 e2) 28)).alloc (.cells (chV x1 f1 g1 h1 i1) 49)).alloc (.cells (chV x2 f2 g2 h2 i2) 49)) (w.heap.size + 2) (chV x1 f1 g1 h1 i1) 49) := by
    have h := Box.new ((w.alloc (.cells (coV c1 a1 b1 d1 e1) 28)).alloc (.cells (coV c2 a2 b2 d2 e2) 28)) (chV x1 f1 g1 h1 i1) 49
    rw [show ((w.alloc (.cells (coV c1 a1 b1 d1 e1) 28)).alloc (.cells (coV c2 a2 b2 d2 e2) 28)).heap.size = w.heap.size + 2 by simp] at h
    exact Box.alloc (h) _
  have HP3_0 : Hid (Box ((((w.alloc (.cells (coV c1 a1 b1 d1 e1) 28)).alloc (.cells (coV c2 a2 b2 d2 e2) 28)).alloc (.cells (chV x1 f1 g1 h1 i1) 49)).alloc (.cells (chV x2 f2 g2 h2 i2) 49)) (w.heap.size + 3) (chV x2 f2 g2 h2 i2) 49) := by
    have h := Box.new (((w.alloc (.cells (coV c1 a1 b1 d1 e1) 28)).alloc (.cells (coV c2 a2 b2 d2 e2) 28)).alloc (.cells (chV x1 f1 g1 h1 i1) 49)) (chV x2 f2 g2 h2 i2) 49
    rw [show (((w.alloc (.cells (coV c1 a1 b1 d1 e1) 28)).alloc (.cells (coV c2 a2 b2 d2 e2) 28)).alloc (.cells (chV x1 f1 g1 h1 i1) 49)).heap.size = w.heap.size + 3 by simp] at h
    exact h
  go_enter Tryz.func8, Tryz.ntmps8
  go_wp2_with ((with_reducible refine (show wpList _ _ _ (⟨some 18, _, _, _, _, _⟩ :: _) _ _ from ?_)); refine Hid.out ?_)
  refine unhid ?_
  obtain ⟨w0, hw0⟩ : ∃ zz, ((((w.alloc (.cells (coV c1 a1 b1 d1 e1) 28)).alloc (.cells (coV c2 a2 b2 d2 e2) 28)).alloc (.cells (chV x1 f1 g1 h1 i1) 49)).alloc (.cells (chV x2 f2 g2 h2 i2) 49)) = zz := ⟨_, rfl⟩
  rw [hw0] at HB_0 HP0_0 HP1_0 HP2_0 HP3_0 ⊢
  clear hw0
  obtain ⟨p0, hp0⟩ : ∃ p, w.heap.size = p := ⟨_, rfl⟩
  obtain ⟨p1, hp1⟩ : ∃ p, p0 + 1 = p := ⟨_, rfl⟩
  obtain ⟨p2, hp2⟩ : ∃ p, p0 + 2 = p := ⟨_, rfl⟩
  obtain ⟨p3, hp3⟩ : ∃ p, p0 + 3 = p := ⟨_, rfl⟩
  rw [hp0] at HP0_0 HP1_0 HP2_0 HP3_0
  rw [hp1] at HP1_0
  rw [hp2] at HP2_0
  rw [hp3] at HP3_0
  simp only [Nat.add_assoc, Nat.reduceAdd, hp0, hp1, hp2, hp3]
  simp only [show p1 + 1 = p2 by omega, show p1 + 2 = p3 by omega]
  have HB_w0 : Hid (Below w.heap.size w w0) := HB_0.out
  have HP0_w0 := HP0_0
  have HP1_w0 := HP1_0
  have HP2_w0 := HP2_0
  have HP3_w0 := HP3_0
  clear hp0 hp1 hp2 hp3 HB_0 HP0_0 HP1_0 HP2_0 HP3_0
  go_wp2_with (first
    | refine wpList_load_row rfl 28 _ rfl p0 rfl 28 (coV c1 a1 b1 d1 e1) (0, 0) _ HP0_w0.out Tryz.underlying28 rfl (info_rcoA c1 _ _ HN0.out) ?_)
  refine (coto_any c1 a1 b1 d1 e1 w0 (HI0.out.below HB_w0.out)).mono ?_
  rintro e w1 ⟨⟨ta, tb, tc, td, rfl, hat⟩, hb⟩
  have HB_w1 : Hid (Below w.heap.size w w1) := HB_w0.out.trans ((hb).mono HB_w0.out.size)
  have HP0_w1 : Hid (Box w1 p0 (coV c1 a1 b1 d1 e1) 28) := HP0_w0.out.below (hb)
  have HP1_w1 : Hid (Box w1 p1 (coV c2 a2 b2 d2 e2) 28) := HP1_w0.out.below (hb)
  have HP2_w1 : Hid (Box w1 p2 (chV x1 f1 g1 h1 i1) 49) := HP2_w0.out.below (hb)
  have HP3_w1 : Hid (Box w1 p3 (chV x2 f2 g2 h2 i2) 49) := HP3_w0.out.below (hb)
  clear HB_w0 HP0_w0 HP1_w0 HP2_w0 HP3_w0
  clear hb
  obtain ⟨F0, hF⟩ : ∃ zz, fewCC c1 = zz := ⟨_, rfl⟩
  rw [hF] at hat HT0 HY0 HL0 ⊢
  have HF0 := Lib.hid hF
  clear hF
  have HM0 := Lib.hid hat.n20
  have HAT := Lib.hid hat
  clear hat
  go_wp2_with fail
  refine (change_any F0 tc td (.slice ta F0.ps.length tb) w1 HM0.out rfl HAT.out.exts HT0.out (HE.out.below HB_w1.out)).mono ?_
  rintro e w2 ⟨hres, hb⟩
  have HB_w2 : Hid (Below w.heap.size w w2) := HB_w1.out.trans ((hb).mono HB_w1.out.size)
  have HP0_w2 : Hid (Box w2 p0 (coV c1 a1 b1 d1 e1) 28) := HP0_w1.out.below (hb)
  have HP1_w2 : Hid (Box w2 p1 (coV c2 a2 b2 d2 e2) 28) := HP1_w1.out.below (hb)
  have HP2_w2 : Hid (Box w2 p2 (chV x1 f1 g1 h1 i1) 49) := HP2_w1.out.below (hb)
  have HP3_w2 : Hid (Box w2 p3 (chV x2 f2 g2 h2 i2) 49) := HP3_w1.out.below (hb)
  clear HB_w1 HP0_w1 HP1_w1 HP2_w1 HP3_w1
  clear hb HAT
  obtain ⟨Y0, sv0, ec0, rfl, hy20, hyo, hone⟩ := hres.one
  have HQ0 := Lib.hid hy20
  have HO0 := Lib.hid hyo
  have H10_w2 : Hid (XOne w2 (chY F0) Y0 sv0 ec0) := hone
  clear hres hy20 hyo hone
  have HZ : Hid ((w2.alloc (.cells (chA czero (.slice none 0 0) (.slice none 0 0)) 40)).heap[w2.heap.size]? = some (.cells (chA czero (.slice none 0 0) (.slice none 0 0)) 40 (0, 0))) := heap_alloc_new _ _
  have HS : Hid (Below w2.heap.size w2 ((w2.alloc (.cells (chA czero (.slice none 0 0) (.slice none 0 0)) 40)).setRow w2.heap.size (chA Y0 sv0 (.slice none 0 0)))) := below_setRow ((Below.refl _ _).alloc (Nat.le_refl _) _) (Nat.le_refl _) _
  have HN : Hid (Box ((w2.alloc (.cells (chA czero (.slice none 0 0) (.slice none 0 0)) 40)).setRow w2.heap.size (chA Y0 sv0 (.slice none 0 0))) w2.heap.size (chA Y0 sv0 (.slice none 0 0)) 40) := setRow_heap _ _ _ _ _ _ HZ.out
  go_wp2_with (first
    | (refine wpList_store_row rfl 40 _ _ rfl w2.heap.size (chA Y0 sv0 (.slice none 0 0)) rfl rfl 40 (chA czero (.slice none 0 0) (.slice none 0 0)) HZ.out (info_chA Y0 _ _ HQ0.out) (by rw [chA_size _ _ _ czero_20, chA_size _ _ _ HQ0.out]) (chA_one _ _ _ HO0.out rfl) ?_
       obtain ⟨w3, hw⟩ : ∃ zz, (w2.alloc (.cells (chA czero (.slice none 0 0) (.slice none 0 0)) 40)).setRow w2.heap.size (chA Y0 sv0 (.slice none 0 0)) = zz := ⟨_, rfl⟩
       rw [hw] at HS HN ⊢
       obtain ⟨q0, hq⟩ : ∃ q, w2.heap.size = q := ⟨_, rfl⟩
       rw [hq] at HN ⊢
       clear hw HZ
       have HB_w3 : Hid (Below w.heap.size w w3) := HB_w2.out.trans ((HS.out).mono HB_w2.out.size)
       have HP0_w3 : Hid (Box w3 p0 (coV c1 a1 b1 d1 e1) 28) := HP0_w2.out.below (HS.out)
       have HP1_w3 : Hid (Box w3 p1 (coV c2 a2 b2 d2 e2) 28) := HP1_w2.out.below (HS.out)
       have HP2_w3 : Hid (Box w3 p2 (chV x1 f1 g1 h1 i1) 49) := HP2_w2.out.below (HS.out)
       have HP3_w3 : Hid (Box w3 p3 (chV x2 f2 g2 h2 i2) 49) := HP3_w2.out.below (HS.out)
       have H10_w3 : Hid (XOne w3 (chY F0) Y0 sv0 ec0) := H10_w2.out.below (HS.out)
       clear HB_w2 HP0_w2 HP1_w2 HP2_w2 HP3_w2 H10_w2
       have HX0_w3 : Hid (Box w3 q0 (chA Y0 sv0 (.slice none 0 0)) 40) := HN.out
       clear HS HN hq)
    | refine wpList_load_row rfl 28 _ rfl p1 rfl 28 (coV c2 a2 b2 d2 e2) (0, 0) _ HP1_w3.out Tryz.underlying28 rfl (info_rcoA c2 _ _ HN1.out) ?_)
  refine (coto_any c2 a2 b2 d2 e2 w3 (HI1.out.below HB_w3.out)).mono ?_
  rintro e w4 ⟨⟨ta, tb, tc, td, rfl, hat⟩, hb⟩
  have HB_w4 : Hid (Below w.heap.size w w4) := HB_w3.out.trans ((hb).mono HB_w3.out.size)
  have HP0_w4 : Hid (Box w4 p0 (coV c1 a1 b1 d1 e1) 28) := HP0_w3.out.below (hb)
  have HP1_w4 : Hid (Box w4 p1 (coV c2 a2 b2 d2 e2) 28) := HP1_w3.out.below (hb)
  have HP2_w4 : Hid (Box w4 p2 (chV x1 f1 g1 h1 i1) 49) := HP2_w3.out.below (hb)
  have HP3_w4 : Hid (Box w4 p3 (chV x2 f2 g2 h2 i2) 49) := HP3_w3.out.below (hb)
  have H10_w4 : Hid (XOne w4 (chY F0) Y0 sv0 ec0) := H10_w3.out.below (hb)
  have HX0_w4 : Hid (Box w4 q0 (chA Y0 sv0 (.slice none 0 0)) 40) := HX0_w3.out.below (hb)
  clear HB_w3 HP0_w3 HP1_w3 HP2_w3 HP3_w3 H10_w3 HX0_w3
  clear hb
  obtain ⟨F1, hF⟩ : ∃ zz, fewCC c2 = zz := ⟨_, rfl⟩
  rw [hF] at hat HT1 HY1 HL1 ⊢
  have HF1 := Lib.hid hF
  clear hF
  have HM1 := Lib.hid hat.n20
  have HAT := Lib.hid hat
  clear hat
  go_wp2_with fail
  refine (change_any F1 tc td (.slice ta F1.ps.length tb) w4 HM1.out rfl HAT.out.exts HT1.out (HE.out.below HB_w4.out)).mono ?_
  rintro e w5 ⟨hres, hb⟩
  have HB_w5 : Hid (Below w.heap.size w w5) := HB_w4.out.trans ((hb).mono HB_w4.out.size)
  have HP0_w5 : Hid (Box w5 p0 (coV c1 a1 b1 d1 e1) 28) := HP0_w4.out.below (hb)
  have HP1_w5 : Hid (Box w5 p1 (coV c2 a2 b2 d2 e2) 28) := HP1_w4.out.below (hb)
  have HP2_w5 : Hid (Box w5 p2 (chV x1 f1 g1 h1 i1) 49) := HP2_w4.out.below (hb)
  have HP3_w5 : Hid (Box w5 p3 (chV x2 f2 g2 h2 i2) 49) := HP3_w4.out.below (hb)
  have H10_w5 : Hid (XOne w5 (chY F0) Y0 sv0 ec0) := H10_w4.out.below (hb)
  have HX0_w5 : Hid (Box w5 q0 (chA Y0 sv0 (.slice none 0 0)) 40) := HX0_w4.out.below (hb)
  clear HB_w4 HP0_w4 HP1_w4 HP2_w4 HP3_w4 H10_w4 HX0_w4
  clear hb HAT
  obtain ⟨Y1, sv1, ec1, rfl, hy20, hyo, hone⟩ := hres.one
  have HQ1 := Lib.hid hy20
  have HO1 := Lib.hid hyo
  have H11_w5 : Hid (XOne w5 (chY F1) Y1 sv1 ec1) := hone
  clear hres hy20 hyo hone
  have HZ : Hid ((w5.alloc (.cells (chA czero (.slice none 0 0) (.slice none 0 0)) 40)).heap[w5.heap.size]? = some (.cells (chA czero (.slice none 0 0) (.slice none 0 0)) 40 (0, 0))) := heap_alloc_new _ _
  have HS : Hid (Below w5.heap.size w5 ((w5.alloc (.cells (chA czero (.slice none 0 0) (.slice none 0 0)) 40)).setRow w5.heap.size (chA Y1 sv1 (.slice none 0 0)))) := below_setRow ((Below.refl _ _).alloc (Nat.le_refl _) _) (Nat.le_refl _) _
  have HN : Hid (Box ((w5.alloc (.cells (chA czero (.slice none 0 0) (.slice none 0 0)) 40)).setRow w5.heap.size (chA Y1 sv1 (.slice none 0 0))) w5.heap.size (chA Y1 sv1 (.slice none 0 0)) 40) := setRow_heap _ _ _ _ _ _ HZ.out
  go_upto_region 3 with (first
    | (refine wpList_store_row rfl 40 _ _ rfl w5.heap.size (chA Y1 sv1 (.slice none 0 0)) rfl rfl 40 (chA czero (.slice none 0 0) (.slice none 0 0)) HZ.out (info_chA Y1 _ _ HQ1.out) (by rw [chA_size _ _ _ czero_20, chA_size _ _ _ HQ1.out]) (chA_one _ _ _ HO1.out rfl) ?_
       obtain ⟨w6, hw⟩ : ∃ zz, (w5.alloc (.cells (chA czero (.slice none 0 0) (.slice none 0 0)) 40)).setRow w5.heap.size (chA Y1 sv1 (.slice none 0 0)) = zz := ⟨_, rfl⟩
       rw [hw] at HS HN ⊢
       obtain ⟨q1, hq⟩ : ∃ q, w5.heap.size = q := ⟨_, rfl⟩
       rw [hq] at HN ⊢
       clear hw HZ
       have HB_w6 : Hid (Below w.heap.size w w6) := HB_w5.out.trans ((HS.out).mono HB_w5.out.size)
       have HP0_w6 : Hid (Box w6 p0 (coV c1 a1 b1 d1 e1) 28) := HP0_w5.out.below (HS.out)
       have HP1_w6 : Hid (Box w6 p1 (coV c2 a2 b2 d2 e2) 28) := HP1_w5.out.below (HS.out)
       have HP2_w6 : Hid (Box w6 p2 (chV x1 f1 g1 h1 i1) 49) := HP2_w5.out.below (HS.out)
       have HP3_w6 : Hid (Box w6 p3 (chV x2 f2 g2 h2 i2) 49) := HP3_w5.out.below (HS.out)
       have H10_w6 : Hid (XOne w6 (chY F0) Y0 sv0 ec0) := H10_w5.out.below (HS.out)
       have HX0_w6 : Hid (Box w6 q0 (chA Y0 sv0 (.slice none 0 0)) 40) := HX0_w5.out.below (HS.out)
       have H11_w6 : Hid (XOne w6 (chY F1) Y1 sv1 ec1) := H11_w5.out.below (HS.out)
       clear HB_w5 HP0_w5 HP1_w5 HP2_w5 HP3_w5 H10_w5 HX0_w5 H11_w5
       have HX1_w6 : Hid (Box w6 q1 (chA Y1 sv1 (.slice none 0 0)) 40) := HN.out
       clear HS HN hq))
  go_cut [51] from 29 (fun v wx => v = .bool false ∧ Below w6.heap.size w6 wx)
  case first =>
    rcases H10_w6.out with ⟨hx, hec, hy1, hy2, ya, yc, hsv, hrow⟩ | ⟨hx, hec⟩
    rotate_left
    · subst hec
      clear hx
      skip
      refine wp_region_noPanic ?_
      refine wp_region_held_drew (S := fun W => Below w6.heap.size w6 W) (by kernel_rfl) ?_ (fun hHeld => ?_)
      · exact (Below.refl _ _).drew
      refine tkV 0 (v := ?_) (hw := ?_) (h := ?_)
      rotate_left
      · intro W hSW
        go_simp
        try with_reducible rfl
      try simp only [Act.put, List.setIfInBounds_toArray, List.set_cons_zero, List.set_cons_succ]
      refine tkV 1 (v := ?_) (hw := ?_) (h := ?_)
      rotate_left
      · intro W hSW
        go_simp
        try with_reducible rfl
      try simp only [Act.put, List.setIfInBounds_toArray, List.set_cons_zero, List.set_cons_succ]
      refine tkV 2 (v := ?_) (hw := ?_) (h := ?_)
      rotate_left
      · intro W hSW
        go_simp
        try with_reducible rfl
      try simp only [Act.put, List.setIfInBounds_toArray, List.set_cons_zero, List.set_cons_succ]
      refine tkN 3 (h := ?_)
      try simp only [Act.put, List.setIfInBounds_toArray, List.set_cons_zero, List.set_cons_succ]
      refine tkN 4 (h := ?_)
      try simp only [Act.put, List.setIfInBounds_toArray, List.set_cons_zero, List.set_cons_succ]
      refine tkV 5 (v := ?_) (hw := ?_) (h := ?_)
      rotate_left
      · intro W hSW
        go_simp
        try with_reducible rfl
      try simp only [Act.put, List.setIfInBounds_toArray, List.set_cons_zero, List.set_cons_succ]
      refine tkV 6 (v := ?_) (hw := ?_) (h := ?_)
      rotate_left
      · intro W hSW
        go_simp
        try with_reducible rfl
      try simp only [Act.put, List.setIfInBounds_toArray, List.set_cons_zero, List.set_cons_succ]
      refine tkN 7 (h := ?_)
      try simp only [Act.put, List.setIfInBounds_toArray, List.set_cons_zero, List.set_cons_succ]
      refine tkN 8 (h := ?_)
      try simp only [Act.put, List.setIfInBounds_toArray, List.set_cons_zero, List.set_cons_succ]
      refine tkN 9 (h := ?_)
      try simp only [Act.put, List.setIfInBounds_toArray, List.set_cons_zero, List.set_cons_succ]
      refine tkN 10 (h := ?_)
      try simp only [Act.put, List.setIfInBounds_toArray, List.set_cons_zero, List.set_cons_succ]
      refine tkN 11 (h := ?_)
      try simp only [Act.put, List.setIfInBounds_toArray, List.set_cons_zero, List.set_cons_succ]
      refine tkN 12 (h := ?_)
      try simp only [Act.put, List.setIfInBounds_toArray, List.set_cons_zero, List.set_cons_succ]
      refine tkN 13 (h := ?_)
      try simp only [Act.put, List.setIfInBounds_toArray, List.set_cons_zero, List.set_cons_succ]
      refine tkN 14 (h := ?_)
      try simp only [Act.put, List.setIfInBounds_toArray, List.set_cons_zero, List.set_cons_succ]
      refine tkN 15 (h := ?_)
      try simp only [Act.put, List.setIfInBounds_toArray, List.set_cons_zero, List.set_cons_succ]
      refine tkN 16 (h := ?_)
      try simp only [Act.put, List.setIfInBounds_toArray, List.set_cons_zero, List.set_cons_succ]
      refine tkN 17 (h := ?_)
      try simp only [Act.put, List.setIfInBounds_toArray, List.set_cons_zero, List.set_cons_succ]
      refine tkN 18 (h := ?_)
      try simp only [Act.put, List.setIfInBounds_toArray, List.set_cons_zero, List.set_cons_succ]
      refine tkN 19 (h := ?_)
      try simp only [Act.put, List.setIfInBounds_toArray, List.set_cons_zero, List.set_cons_succ]
      refine tkN 20 (h := ?_)
      try simp only [Act.put, List.setIfInBounds_toArray, List.set_cons_zero, List.set_cons_succ]
      refine tkN 21 (h := ?_)
      try simp only [Act.put, List.setIfInBounds_toArray, List.set_cons_zero, List.set_cons_succ]
      refine tkV 22 (v := ?_) (hw := ?_) (h := ?_)
      rotate_left
      · intro W hSW
        go_simp
        try with_reducible rfl
      try simp only [Act.put, List.setIfInBounds_toArray, List.set_cons_zero, List.set_cons_succ]
      refine wpAnyH_done (by kernel_rfl) ?_ _
      refine NoPanic.normal ?_
      clear hHeld
      go_wp2_with fail
      go_meet
      exact ⟨rfl, (Below.refl _ _).drew⟩
    subst hec
    rcases H11_w6.out with ⟨kx, kec, ky1, ky2, za, zc, ksv, krow⟩ | ⟨kx, kec⟩
    rotate_left
    · subst kec
      clear hx kx hy1 hy2 hrow
      refine wp_region_noPanic ?_
      refine wp_region_held_drew (S := fun W => Below w6.heap.size w6 W) (by kernel_rfl) ?_ (fun hHeld => ?_)
      · exact (Below.refl _ _).drew
      refine tkV 0 (v := ?_) (hw := ?_) (h := ?_)
      rotate_left
      · intro W hSW
        go_simp
        try with_reducible rfl
      try simp only [Act.put, List.setIfInBounds_toArray, List.set_cons_zero, List.set_cons_succ]
      refine tkV 1 (v := ?_) (hw := ?_) (h := ?_)
      rotate_left
      · intro W hSW
        go_simp
        try with_reducible rfl
      try simp only [Act.put, List.setIfInBounds_toArray, List.set_cons_zero, List.set_cons_succ]
      refine tkV 2 (v := ?_) (hw := ?_) (h := ?_)
      rotate_left
      · intro W hSW
        go_simp
        try with_reducible rfl
      try simp only [Act.put, List.setIfInBounds_toArray, List.set_cons_zero, List.set_cons_succ]
      refine tkV 3 (v := ?_) (hw := ?_) (h := ?_)
      rotate_left
      · intro W hSW
        go_simp
        try with_reducible rfl
      try simp only [Act.put, List.setIfInBounds_toArray, List.set_cons_zero, List.set_cons_succ]
      refine tkV 4 (v := ?_) (hw := ?_) (h := ?_)
      rotate_left
      · intro W hSW
        go_simp
        try with_reducible rfl
      try simp only [Act.put, List.setIfInBounds_toArray, List.set_cons_zero, List.set_cons_succ]
      refine tkV 5 (v := ?_) (hw := ?_) (h := ?_)
      rotate_left
      · intro W hSW
        go_simp
        try with_reducible rfl
      try simp only [Act.put, List.setIfInBounds_toArray, List.set_cons_zero, List.set_cons_succ]
      refine tkV 6 (v := ?_) (hw := ?_) (h := ?_)
      rotate_left
      · intro W hSW
        go_simp
        try with_reducible rfl
      try simp only [Act.put, List.setIfInBounds_toArray, List.set_cons_zero, List.set_cons_succ]
      refine tkN 7 (h := ?_)
      try simp only [Act.put, List.setIfInBounds_toArray, List.set_cons_zero, List.set_cons_succ]
      refine tkN 8 (h := ?_)
      try simp only [Act.put, List.setIfInBounds_toArray, List.set_cons_zero, List.set_cons_succ]
      refine tkN 9 (h := ?_)
      try simp only [Act.put, List.setIfInBounds_toArray, List.set_cons_zero, List.set_cons_succ]
      refine tkN 10 (h := ?_)
      try simp only [Act.put, List.setIfInBounds_toArray, List.set_cons_zero, List.set_cons_succ]
      refine tkN 11 (h := ?_)
      try simp only [Act.put, List.setIfInBounds_toArray, List.set_cons_zero, List.set_cons_succ]
      refine tkN 12 (h := ?_)
      try simp only [Act.put, List.setIfInBounds_toArray, List.set_cons_zero, List.set_cons_succ]
      refine tkN 13 (h := ?_)
      try simp only [Act.put, List.setIfInBounds_toArray, List.set_cons_zero, List.set_cons_succ]
      refine tkN 14 (h := ?_)
      try simp only [Act.put, List.setIfInBounds_toArray, List.set_cons_zero, List.set_cons_succ]
      refine tkN 15 (h := ?_)
      try simp only [Act.put, List.setIfInBounds_toArray, List.set_cons_zero, List.set_cons_succ]
      refine tkN 16 (h := ?_)
      try simp only [Act.put, List.setIfInBounds_toArray, List.set_cons_zero, List.set_cons_succ]
      refine tkN 17 (h := ?_)
      try simp only [Act.put, List.setIfInBounds_toArray, List.set_cons_zero, List.set_cons_succ]
      refine tkN 18 (h := ?_)
      try simp only [Act.put, List.setIfInBounds_toArray, List.set_cons_zero, List.set_cons_succ]
      refine tkN 19 (h := ?_)
      try simp only [Act.put, List.setIfInBounds_toArray, List.set_cons_zero, List.set_cons_succ]
      refine tkN 20 (h := ?_)
      try simp only [Act.put, List.setIfInBounds_toArray, List.set_cons_zero, List.set_cons_succ]
      refine tkN 21 (h := ?_)
      try simp only [Act.put, List.setIfInBounds_toArray, List.set_cons_zero, List.set_cons_succ]
      refine tkV 22 (v := ?_) (hw := ?_) (h := ?_)
      rotate_left
      · intro W hSW
        go_simp
        try with_reducible rfl
      try simp only [Act.put, List.setIfInBounds_toArray, List.set_cons_zero, List.set_cons_succ]
      refine wpAnyH_done (by kernel_rfl) ?_ _
      refine NoPanic.normal ?_
      clear hHeld
      go_wp2_with fail
      go_meet
      exact ⟨rfl, (Below.refl _ _).drew⟩
    subst kec
    subst hsv ksv
    have HZX := Lib.hid hx
    have HKX := Lib.hid kx
    have HZ1 := Lib.hid hy1
    have HZ2 := Lib.hid hy2
    have HK1 := Lib.hid ky1
    have HK2 := Lib.hid ky2
    have HRW := Lib.hid hrow
    have HKW := Lib.hid krow
    have HAP := Lib.hid (apart_ch hx kx hy1 hy2 ky1 ky2)
    have HTA := HY0.out _ hx
    have HTB := HY1.out _ kx
    have HLA : Hid (Y0.xs.length ≤ 100000) := by have h2 : Y0.xs.length ≤ 18001 := HTA.1.2.2.1; exact Nat.le_trans h2 (by decide)
    have HLB : Hid (Y1.xs.length ≤ 100000) := by have h2 : Y1.xs.length ≤ 18001 := HTB.1.2.2.1; exact Nat.le_trans h2 (by decide)
    clear hx kx hy1 hy2 ky1 ky2 hrow krow HTA HTB
    have HWW : Hid (∀ W, Below w6.heap.size w6 W → Below w.heap.size w W) := fun W hW => HB_w6.out.trans (hW.mono HB_w6.out.size)
    have HVv0 : Hid (Below w6.heap.size w6 w6.drew) := (Below.refl _ _).drew
    refine wp_region_noPanic ?_
    refine wp_region_held_drew (S := fun W => Below w6.heap.size w6 W) (by kernel_rfl) ?_ (fun hHeld => ?_)
    · exact (Below.refl _ _).drew
    refine tkV 0 (v := ?_) (hw := ?_) (h := ?_)
    rotate_left
    · intro W hSW
      go_simp
      try with_reducible rfl
    try simp only [Act.put, List.setIfInBounds_toArray, List.set_cons_zero, List.set_cons_succ]
    refine tkV 1 (v := ?_) (hw := ?_) (h := ?_)
    rotate_left
    · intro W hSW
      go_simp
      try with_reducible rfl
    try simp only [Act.put, List.setIfInBounds_toArray, List.set_cons_zero, List.set_cons_succ]
    refine tkV 2 (v := ?_) (hw := ?_) (h := ?_)
    rotate_left
    · intro W hSW
      go_simp
      try with_reducible rfl
    try simp only [Act.put, List.setIfInBounds_toArray, List.set_cons_zero, List.set_cons_succ]
    refine tkV 3 (v := ?_) (hw := ?_) (h := ?_)
    rotate_left
    · intro W hSW
      go_simp
      try with_reducible rfl
    try simp only [Act.put, List.setIfInBounds_toArray, List.set_cons_zero, List.set_cons_succ]
    refine tkV 4 (v := ?_) (hw := ?_) (h := ?_)
    rotate_left
    · intro W hSW
      go_simp
      try with_reducible rfl
    try simp only [Act.put, List.setIfInBounds_toArray, List.set_cons_zero, List.set_cons_succ]
    refine tkV 5 (v := ?_) (hw := ?_) (h := ?_)
    rotate_left
    · intro W hSW
      go_simp
      try with_reducible rfl
    try simp only [Act.put, List.setIfInBounds_toArray, List.set_cons_zero, List.set_cons_succ]
    refine tkV 6 (v := ?_) (hw := ?_) (h := ?_)
    rotate_left
    · intro W hSW
      go_simp
      try with_reducible rfl
    try simp only [Act.put, List.setIfInBounds_toArray, List.set_cons_zero, List.set_cons_succ]
    refine tkY 7 (hy := (yieldsIf_load_mid (by rfl) 40 _ rfl q0 0 rfl (chL Y0 (.slice ya Y0.xs.length yc) (.slice none 0 0)) _ (fun W hSW => Box.range (HX0_w6.out.below hSW)) Tryz.underlying40 rfl (info_ch Y0 _ _ HQ0.out))) (h := ?_)
    try simp only [Act.put, List.setIfInBounds_toArray, List.set_cons_zero, List.set_cons_succ]
    refine tkY 9 (hy := (yieldsIf_load_mid (by rfl) 40 _ rfl q1 0 rfl (chL Y1 (.slice za Y1.xs.length zc) (.slice none 0 0)) _ (fun W hSW => Box.range (HX1_w6.out.below hSW)) Tryz.underlying40 rfl (info_ch Y1 _ _ HQ1.out))) (h := ?_)
    try simp only [Act.put, List.setIfInBounds_toArray, List.set_cons_zero, List.set_cons_succ]
    refine tkY 12 (hy := (yieldsIf_load_mid (by rfl) 28 _ rfl p0 0 rfl (coL c1 (.slice a1 c1.ps.length b1) (.slice d1 c1.xs.length e1)) _ (fun W hSW => Box.range (HP0_w6.out.below hSW)) Tryz.underlying28 rfl (info_rco c1 _ _ HN0.out))) (h := ?_)
    try simp only [Act.put, List.setIfInBounds_toArray, List.set_cons_zero, List.set_cons_succ]
    refine tkY 16 (hy := (yieldsIf_load_mid (by rfl) 28 _ rfl p1 0 rfl (coL c2 (.slice a2 c2.ps.length b2) (.slice d2 c2.xs.length e2)) _ (fun W hSW => Box.range (HP1_w6.out.below hSW)) Tryz.underlying28 rfl (info_rco c2 _ _ HN1.out))) (h := ?_)
    try simp only [Act.put, List.setIfInBounds_toArray, List.set_cons_zero, List.set_cons_succ]
    refine wpAnyH_ready (rs := [8]) (by kernel_rfl) (by simp) ?_
    refine AllReadyH.cons (by simp only [List.getElem?_toArray, List.getElem?_cons_succ, List.getElem?_cons_zero]; rfl) (fun K hK => ?_) AllReadyH.nil
    go_simp
    refine ((show Calls Tryz.prog 15 #[.agg (chA Y0 (.slice ya Y0.xs.length yc) (.slice none 0 0))] _ fun e w' => ChOf e w' Y0 ∧ Below _ _ w' from by rw [chV_nil HZ2.out]; exact chof_any Y0 ya yc none 0 _ (chAt_own HZ1.out HZ2.out (HRW.out.below HVv0.out)) HLA.out (by rw [HZ2.out]; exact Nat.zero_le _))).mono ?_
    rintro e v1 ⟨⟨ma, mb, mc, md, rfl, hr1, -⟩, hb⟩
    have hv : Below w6.heap.size w6 v1 := HVv0.out.trans (hb.mono HVv0.out.size)
    have HVv1 := Lib.hid hv
    have HGm := Lib.hid hr1
    clear hb hv hr1
    go_wp2_with fail
    refine hK.out _ _ (HVv1.out) (fun hHeld2 => ?_)
    clear hK K hHeld
    have hHeld := hHeld2
    clear hHeld2
    try simp only [Act.put, List.setIfInBounds_toArray, List.set_cons_zero, List.set_cons_succ]
    refine wpAnyH_ready (rs := [10]) (by kernel_rfl) (by simp) ?_
    refine AllReadyH.cons (by simp only [List.getElem?_toArray, List.getElem?_cons_succ, List.getElem?_cons_zero]; rfl) (fun K hK => ?_) AllReadyH.nil
    go_simp
    refine ((show Calls Tryz.prog 15 #[.agg (chA Y1 (.slice za Y1.xs.length zc) (.slice none 0 0))] _ fun e w' => ChOf e w' Y1 ∧ Below _ _ w' from by rw [chV_nil HK2.out]; exact chof_any Y1 za zc none 0 _ (chAt_own HK1.out HK2.out (HKW.out.below HVv1.out)) HLB.out (by rw [HK2.out]; exact Nat.zero_le _))).mono ?_
    rintro e v2 ⟨⟨na, nb, nc, nd, rfl, hr1, -⟩, hb⟩
    have hv : Below w6.heap.size w6 v2 := HVv1.out.trans (hb.mono HVv1.out.size)
    have HVv2 := Lib.hid hv
    have HGm' := Lib.hid (HGm.out.below hb)
    clear HGm
    have HGm := HGm'
    clear HGm'
    have HGn := Lib.hid hr1
    clear hb hv hr1
    go_wp2_with fail
    refine hK.out _ _ (HVv2.out) (fun hHeld2 => ?_)
    clear hK K hHeld
    have hHeld := hHeld2
    clear hHeld2
    try simp only [Act.put, List.setIfInBounds_toArray, List.set_cons_zero, List.set_cons_succ]
    refine wpAnyH_ready (rs := [11]) (by kernel_rfl) (by simp) ?_
    refine AllReadyH.cons (by simp only [List.getElem?_toArray, List.getElem?_cons_succ, List.getElem?_cons_zero]; rfl) (fun K hK => ?_) AllReadyH.nil
    go_simp
    refine ((show Calls Tryz.prog 14 #[.agg (chV Y0 ma mb mc md), .agg (chV Y1 na nb nc nd)] _ fun e w' => e = .returned (.bool (decide (sameXB Y0 Y1))) ∧ Below _ _ w' from by rw [chV_bare HZ2.out, chV_bare HK2.out]; exact rsamex_any Y0 Y1 mc md nc nd ma mb na nb _ HZ1.out HK1.out HGm.out HGn.out HLA.out HLB.out)).mono ?_
    rintro e v3 ⟨rfl, hb⟩
    have hv : Below w6.heap.size w6 v3 := HVv2.out.trans (hb.mono HVv2.out.size)
    have HVv3 := Lib.hid hv
    have HGm' := Lib.hid (HGm.out.below hb)
    clear HGm
    have HGm := HGm'
    clear HGm'
    have HGn' := Lib.hid (HGn.out.below hb)
    clear HGn
    have HGn := HGn'
    clear HGn'
    clear hb hv
    go_wp2_with fail
    refine hK.out _ _ (HVv3.out) (fun hHeld2 => ?_)
    clear hK K hHeld
    have hHeld := hHeld2
    clear hHeld2
    try simp only [Act.put, List.setIfInBounds_toArray, List.set_cons_zero, List.set_cons_succ]
    refine wpAnyH_ready (rs := [13]) (by kernel_rfl) (by simp) ?_
    refine AllReadyH.cons (by simp only [List.getElem?_toArray, List.getElem?_cons_succ, List.getElem?_cons_zero]; rfl) (fun K hK => ?_) AllReadyH.nil
    go_simp
    have hto := coto_any c1 a1 b1 d1 e1 _ (HI0.out.below (HWW.out _ HVv3.out))
    rw [HF0.out] at hto
    refine hto.mono ?_
    clear hto
    rintro e v4 ⟨⟨sa, sb, sc, sd, rfl, hat⟩, hb⟩
    have hv : Below w6.heap.size w6 v4 := HVv3.out.trans (hb.mono HVv3.out.size)
    have HVv4 := Lib.hid hv
    have HGm' := Lib.hid (HGm.out.below hb)
    clear HGm
    have HGm := HGm'
    clear HGm'
    have HGn' := Lib.hid (HGn.out.below hb)
    clear HGn
    have HGn := HGn'
    clear HGn'
    have HAs := Lib.hid hat
    clear hb hv hat
    go_wp2_with fail
    refine hK.out _ _ (HVv4.out) (fun hHeld2 => ?_)
    clear hK K hHeld
    have hHeld := hHeld2
    clear hHeld2
    try simp only [Act.put, List.setIfInBounds_toArray, List.set_cons_zero, List.set_cons_succ]
    refine wpAnyH_ready (rs := [14]) (by kernel_rfl) (by simp) ?_
    refine AllReadyH.cons (by simp only [List.getElem?_toArray, List.getElem?_cons_succ, List.getElem?_cons_zero]; rfl) (fun K hK => ?_) AllReadyH.nil
    go_simp
    refine (coof_any F0 sa sb sc sd _ HAs.out HL0.out.1 HL0.out.2).mono ?_
    rintro e v5 ⟨⟨ga, gb, gc, gd, rfl, hr1⟩, hb⟩
    have hv : Below w6.heap.size w6 v5 := HVv4.out.trans (hb.mono HVv4.out.size)
    have HVv5 := Lib.hid hv
    have HGm' := Lib.hid (HGm.out.below hb)
    clear HGm
    have HGm := HGm'
    clear HGm'
    have HGn' := Lib.hid (HGn.out.below hb)
    clear HGn
    have HGn := HGn'
    clear HGn'
    have HAs' := Lib.hid (HAs.out.below hb)
    clear HAs
    have HAs := HAs'
    clear HAs'
    have HGg := Lib.hid hr1.exts
    clear hb hv hr1
    go_wp2_with fail
    refine hK.out _ _ (HVv5.out) (fun hHeld2 => ?_)
    clear hK K hHeld
    have hHeld := hHeld2
    clear hHeld2
    try simp only [Act.put, List.setIfInBounds_toArray, List.set_cons_zero, List.set_cons_succ]
    refine wpAnyH_ready (rs := [15]) (by kernel_rfl) (by simp) ?_
    refine AllReadyH.cons (by simp only [List.getElem?_toArray, List.getElem?_cons_succ, List.getElem?_cons_zero]; rfl) (fun K hK => ?_) AllReadyH.nil
    go_simp
    refine (alone_any F0 (.slice ga F0.ps.length gb) gc gd _ HM0.out).mono ?_
    rintro e v6 ⟨rfl, hb⟩
    have hv : Below w6.heap.size w6 v6 := HVv5.out.trans (hb.mono HVv5.out.size)
    have HVv6 := Lib.hid hv
    have HGm' := Lib.hid (HGm.out.below hb)
    clear HGm
    have HGm := HGm'
    clear HGm'
    have HGn' := Lib.hid (HGn.out.below hb)
    clear HGn
    have HGn := HGn'
    clear HGn'
    have HAs' := Lib.hid (HAs.out.below hb)
    clear HAs
    have HAs := HAs'
    clear HAs'
    have HGg' := Lib.hid (HGg.out.below hb)
    clear HGg
    have HGg := HGg'
    clear HGg'
    clear hb hv
    go_wp2_with fail
    refine hK.out _ _ (HVv6.out) (fun hHeld2 => ?_)
    clear hK K hHeld
    have hHeld := hHeld2
    clear hHeld2
    try simp only [Act.put, List.setIfInBounds_toArray, List.set_cons_zero, List.set_cons_succ]
    refine wpAnyH_ready (rs := [17]) (by kernel_rfl) (by simp) ?_
    refine AllReadyH.cons (by simp only [List.getElem?_toArray, List.getElem?_cons_succ, List.getElem?_cons_zero]; rfl) (fun K hK => ?_) AllReadyH.nil
    go_simp
    have hto := coto_any c2 a2 b2 d2 e2 _ (HI1.out.below (HWW.out _ HVv6.out))
    rw [HF1.out] at hto
    refine hto.mono ?_
    clear hto
    rintro e v7 ⟨⟨ta, tb, tc, td, rfl, hat⟩, hb⟩
    have hv : Below w6.heap.size w6 v7 := HVv6.out.trans (hb.mono HVv6.out.size)
    have HVv7 := Lib.hid hv
    have HGm' := Lib.hid (HGm.out.below hb)
    clear HGm
    have HGm := HGm'
    clear HGm'
    have HGn' := Lib.hid (HGn.out.below hb)
    clear HGn
    have HGn := HGn'
    clear HGn'
    have HAs' := Lib.hid (HAs.out.below hb)
    clear HAs
    have HAs := HAs'
    clear HAs'
    have HGg' := Lib.hid (HGg.out.below hb)
    clear HGg
    have HGg := HGg'
    clear HGg'
    have HAt := Lib.hid hat
    clear hb hv hat
    go_wp2_with fail
    refine hK.out _ _ (HVv7.out) (fun hHeld2 => ?_)
    clear hK K hHeld
    have hHeld := hHeld2
    clear hHeld2
    try simp only [Act.put, List.setIfInBounds_toArray, List.set_cons_zero, List.set_cons_succ]
    refine wpAnyH_ready (rs := [18]) (by kernel_rfl) (by simp) ?_
    refine AllReadyH.cons (by simp only [List.getElem?_toArray, List.getElem?_cons_succ, List.getElem?_cons_zero]; rfl) (fun K hK => ?_) AllReadyH.nil
    go_simp
    refine (coof_any F1 ta tb tc td _ HAt.out HL1.out.1 HL1.out.2).mono ?_
    rintro e v8 ⟨⟨ka, kb, kc, kd, rfl, hr1⟩, hb⟩
    have hv : Below w6.heap.size w6 v8 := HVv7.out.trans (hb.mono HVv7.out.size)
    have HVv8 := Lib.hid hv
    have HGm' := Lib.hid (HGm.out.below hb)
    clear HGm
    have HGm := HGm'
    clear HGm'
    have HGn' := Lib.hid (HGn.out.below hb)
    clear HGn
    have HGn := HGn'
    clear HGn'
    have HAs' := Lib.hid (HAs.out.below hb)
    clear HAs
    have HAs := HAs'
    clear HAs'
    have HGg' := Lib.hid (HGg.out.below hb)
    clear HGg
    have HGg := HGg'
    clear HGg'
    have HAt' := Lib.hid (HAt.out.below hb)
    clear HAt
    have HAt := HAt'
    clear HAt'
    have HGk := Lib.hid hr1.exts
    clear hb hv hr1
    go_wp2_with fail
    refine hK.out _ _ (HVv8.out) (fun hHeld2 => ?_)
    clear hK K hHeld
    have hHeld := hHeld2
    clear hHeld2
    try simp only [Act.put, List.setIfInBounds_toArray, List.set_cons_zero, List.set_cons_succ]
    refine wpAnyH_ready (rs := [19]) (by kernel_rfl) (by simp) ?_
    refine AllReadyH.cons (by simp only [List.getElem?_toArray, List.getElem?_cons_succ, List.getElem?_cons_zero]; rfl) (fun K hK => ?_) AllReadyH.nil
    go_simp
    refine (alone_any F1 (.slice ka F1.ps.length kb) kc kd _ HM1.out).mono ?_
    rintro e v9 ⟨rfl, hb⟩
    have hv : Below w6.heap.size w6 v9 := HVv8.out.trans (hb.mono HVv8.out.size)
    have HVv9 := Lib.hid hv
    have HGm' := Lib.hid (HGm.out.below hb)
    clear HGm
    have HGm := HGm'
    clear HGm'
    have HGn' := Lib.hid (HGn.out.below hb)
    clear HGn
    have HGn := HGn'
    clear HGn'
    have HAs' := Lib.hid (HAs.out.below hb)
    clear HAs
    have HAs := HAs'
    clear HAs'
    have HGg' := Lib.hid (HGg.out.below hb)
    clear HGg
    have HGg := HGg'
    clear HGg'
    have HAt' := Lib.hid (HAt.out.below hb)
    clear HAt
    have HAt := HAt'
    clear HAt'
    have HGk' := Lib.hid (HGk.out.below hb)
    clear HGk
    have HGk := HGk'
    clear HGk'
    clear hb hv
    go_wp2_with fail
    refine hK.out _ _ (HVv9.out) (fun hHeld2 => ?_)
    clear hK K hHeld
    have hHeld := hHeld2
    clear hHeld2
    try simp only [Act.put, List.setIfInBounds_toArray, List.set_cons_zero, List.set_cons_succ]
    refine wpAnyH_ready (rs := [20]) (by kernel_rfl) (by simp) ?_
    refine AllReadyH.cons (by simp only [List.getElem?_toArray, List.getElem?_cons_succ, List.getElem?_cons_zero]; rfl) (fun K hK => ?_) AllReadyH.nil
    go_simp
    refine ((show Calls Tryz.prog 17 #[.agg (coA (aloneC F0) (.slice none 0 0) (.slice gc F0.xs.length gd)), .agg (coA (aloneC F1) (.slice none 0 0) (.slice kc F1.xs.length kd))] _ fun e w' => e = .returned (.bool (decide (sameCB (aloneC F0) (aloneC F1)))) ∧ Below _ _ w' from rsamec_any (aloneC F0) (aloneC F1) none 0 none 0 gc gd kc kd _ rfl rfl HGg.out HGk.out HL0.out.2 HL1.out.2)).mono ?_
    rintro e v10 ⟨rfl, hb⟩
    have hv : Below w6.heap.size w6 v10 := HVv9.out.trans (hb.mono HVv9.out.size)
    have HVv10 := Lib.hid hv
    have HGm' := Lib.hid (HGm.out.below hb)
    clear HGm
    have HGm := HGm'
    clear HGm'
    have HGn' := Lib.hid (HGn.out.below hb)
    clear HGn
    have HGn := HGn'
    clear HGn'
    have HAs' := Lib.hid (HAs.out.below hb)
    clear HAs
    have HAs := HAs'
    clear HAs'
    have HGg' := Lib.hid (HGg.out.below hb)
    clear HGg
    have HGg := HGg'
    clear HGg'
    have HAt' := Lib.hid (HAt.out.below hb)
    clear HAt
    have HAt := HAt'
    clear HAt'
    have HGk' := Lib.hid (HGk.out.below hb)
    clear HGk
    have HGk := HGk'
    clear HGk'
    clear hb hv
    go_wp2_with fail
    refine hK.out _ _ (HVv10.out) (fun hHeld2 => ?_)
    clear hK K hHeld
    have hHeld := hHeld2
    clear hHeld2
    try simp only [Act.put, List.setIfInBounds_toArray, List.set_cons_zero, List.set_cons_succ]
    rw [HAP.out]
    refine tkY 21 (hy := (yieldsIf_eql (by rfl) .neq 4 _ _ _ rfl (.bool (decide (sameCB (aloneC F0) (aloneC F1)))) (.bool (decide (sameCB (aloneC F0) (aloneC F1)))) rfl rfl (.bool false) (guard_neqb _ _ _ _) (neq_bool _))) (h := ?_)
    try simp only [Act.put, List.setIfInBounds_toArray, List.set_cons_zero, List.set_cons_succ]
    refine tkV 22 (v := ?_) (hw := ?_) (h := ?_)
    rotate_left
    · intro W hSW
      go_simp
      try with_reducible rfl
    try simp only [Act.put, List.setIfInBounds_toArray, List.set_cons_zero, List.set_cons_succ]
    refine wpAnyH_done (by kernel_rfl) ?_ _
    refine NoPanic.normal ?_
    clear hHeld
    go_wp2_with fail
    go_meet
    exact ⟨rfl, HVv10.out⟩
  case rest =>
    obtain ⟨rfl, hcb⟩ := hcut
    generalize wc = w7 at *
    have HB_w7 : Hid (Below w.heap.size w w7) := HB_w6.out.trans ((hcb).mono HB_w6.out.size)
    have HP0_w7 : Hid (Box w7 p0 (coV c1 a1 b1 d1 e1) 28) := HP0_w6.out.below (hcb)
    have HP1_w7 : Hid (Box w7 p1 (coV c2 a2 b2 d2 e2) 28) := HP1_w6.out.below (hcb)
    have HP2_w7 : Hid (Box w7 p2 (chV x1 f1 g1 h1 i1) 49) := HP2_w6.out.below (hcb)
    have HP3_w7 : Hid (Box w7 p3 (chV x2 f2 g2 h2 i2) 49) := HP3_w6.out.below (hcb)
    have H10_w7 : Hid (XOne w7 (chY F0) Y0 sv0 ec0) := H10_w6.out.below (hcb)
    have HX0_w7 : Hid (Box w7 q0 (chA Y0 sv0 (.slice none 0 0)) 40) := HX0_w6.out.below (hcb)
    have H11_w7 : Hid (XOne w7 (chY F1) Y1 sv1 ec1) := H11_w6.out.below (hcb)
    have HX1_w7 : Hid (Box w7 q1 (chA Y1 sv1 (.slice none 0 0)) 40) := HX1_w6.out.below (hcb)
    clear HB_w6 HP0_w6 HP1_w6 HP2_w6 HP3_w6 H10_w6 HX0_w6 H11_w6 HX1_w6
    clear hcb
    go_wp2_with (first
      | refine wpList_load_row rfl 49 _ rfl p2 rfl 49 (chV x1 f1 g1 h1 i1) (0, 0) _ HP2_w7.out Tryz.underlying49 rfl (info_rchA x1 _ _ HN2.out) ?_)
    refine (chto_any x1 f1 g1 h1 i1 w7 (HI2.out.below HB_w7.out)).mono ?_
    rintro e w8 ⟨⟨ta, tb, tc, td, rfl, hat⟩, hb⟩
    have HB_w8 : Hid (Below w.heap.size w w8) := HB_w7.out.trans ((hb).mono HB_w7.out.size)
    have HP0_w8 : Hid (Box w8 p0 (coV c1 a1 b1 d1 e1) 28) := HP0_w7.out.below (hb)
    have HP1_w8 : Hid (Box w8 p1 (coV c2 a2 b2 d2 e2) 28) := HP1_w7.out.below (hb)
    have HP2_w8 : Hid (Box w8 p2 (chV x1 f1 g1 h1 i1) 49) := HP2_w7.out.below (hb)
    have HP3_w8 : Hid (Box w8 p3 (chV x2 f2 g2 h2 i2) 49) := HP3_w7.out.below (hb)
    have H10_w8 : Hid (XOne w8 (chY F0) Y0 sv0 ec0) := H10_w7.out.below (hb)
    have HX0_w8 : Hid (Box w8 q0 (chA Y0 sv0 (.slice none 0 0)) 40) := HX0_w7.out.below (hb)
    have H11_w8 : Hid (XOne w8 (chY F1) Y1 sv1 ec1) := H11_w7.out.below (hb)
    have HX1_w8 : Hid (Box w8 q1 (chA Y1 sv1 (.slice none 0 0)) 40) := HX1_w7.out.below (hb)
    clear HB_w7 HP0_w7 HP1_w7 HP2_w7 HP3_w7 H10_w7 HX0_w7 H11_w7 HX1_w7
    clear hb
    obtain ⟨F2, hF⟩ : ∃ zz, fewC x1 = zz := ⟨_, rfl⟩
    rw [hF] at hat HT2 HY2 HL2 ⊢
    have HF2 := Lib.hid hF
    clear hF
    have HM2 := Lib.hid hat.n20
    have HAT := Lib.hid hat
    clear hat
    go_wp2_with fail
    refine (commit_any F2 ta tb (.slice tc F2.fs.length td) w8 HM2.out rfl HAT.out.exts HT2.out (HE.out.below HB_w8.out)).mono ?_
    rintro e w9 ⟨hres, hb⟩
    have HB_w9 : Hid (Below w.heap.size w w9) := HB_w8.out.trans ((hb).mono HB_w8.out.size)
    have HP0_w9 : Hid (Box w9 p0 (coV c1 a1 b1 d1 e1) 28) := HP0_w8.out.below (hb)
    have HP1_w9 : Hid (Box w9 p1 (coV c2 a2 b2 d2 e2) 28) := HP1_w8.out.below (hb)
    have HP2_w9 : Hid (Box w9 p2 (chV x1 f1 g1 h1 i1) 49) := HP2_w8.out.below (hb)
    have HP3_w9 : Hid (Box w9 p3 (chV x2 f2 g2 h2 i2) 49) := HP3_w8.out.below (hb)
    have H10_w9 : Hid (XOne w9 (chY F0) Y0 sv0 ec0) := H10_w8.out.below (hb)
    have HX0_w9 : Hid (Box w9 q0 (chA Y0 sv0 (.slice none 0 0)) 40) := HX0_w8.out.below (hb)
    have H11_w9 : Hid (XOne w9 (chY F1) Y1 sv1 ec1) := H11_w8.out.below (hb)
    have HX1_w9 : Hid (Box w9 q1 (chA Y1 sv1 (.slice none 0 0)) 40) := HX1_w8.out.below (hb)
    clear HB_w8 HP0_w8 HP1_w8 HP2_w8 HP3_w8 H10_w8 HX0_w8 H11_w8 HX1_w8
    clear hb HAT
    obtain ⟨Y2, pv2, sv2, ec2, rfl, hy20, hyo, hone⟩ := hres.one
    have HQ2 := Lib.hid hy20
    have HO2 := Lib.hid hyo
    have H12_w9 : Hid (COne w9 (coY F2) Y2 pv2 sv2 ec2) := hone
    clear hres hy20 hyo hone
    have HZ : Hid ((w9.alloc (.cells (coA cz (.slice none 0 0) (.slice none 0 0)) 34)).heap[w9.heap.size]? = some (.cells (coA cz (.slice none 0 0) (.slice none 0 0)) 34 (0, 0))) := heap_alloc_new _ _
    have HS : Hid (Below w9.heap.size w9 ((w9.alloc (.cells (coA cz (.slice none 0 0) (.slice none 0 0)) 34)).setRow w9.heap.size (coA Y2 pv2 sv2))) := below_setRow ((Below.refl _ _).alloc (Nat.le_refl _) _) (Nat.le_refl _) _
    have HN : Hid (Box ((w9.alloc (.cells (coA cz (.slice none 0 0) (.slice none 0 0)) 34)).setRow w9.heap.size (coA Y2 pv2 sv2)) w9.heap.size (coA Y2 pv2 sv2) 34) := setRow_heap _ _ _ _ _ _ HZ.out
    go_wp2_with (first
      | (refine wpList_store_row rfl 34 _ _ rfl w9.heap.size (coA Y2 pv2 sv2) rfl rfl 34 (coA cz (.slice none 0 0) (.slice none 0 0)) HZ.out (info_coA Y2 _ _ HQ2.out) (by rw [coA_size _ _ _ cz_20, coA_size _ _ _ HQ2.out]) (coA_one _ _ _ HO2.out.1 HO2.out.2) ?_
         obtain ⟨wa, hw⟩ : ∃ zz, (w9.alloc (.cells (coA cz (.slice none 0 0) (.slice none 0 0)) 34)).setRow w9.heap.size (coA Y2 pv2 sv2) = zz := ⟨_, rfl⟩
         rw [hw] at HS HN ⊢
         obtain ⟨q2, hq⟩ : ∃ q, w9.heap.size = q := ⟨_, rfl⟩
         rw [hq] at HN ⊢
         clear hw HZ
         have HB_wa : Hid (Below w.heap.size w wa) := HB_w9.out.trans ((HS.out).mono HB_w9.out.size)
         have HP0_wa : Hid (Box wa p0 (coV c1 a1 b1 d1 e1) 28) := HP0_w9.out.below (HS.out)
         have HP1_wa : Hid (Box wa p1 (coV c2 a2 b2 d2 e2) 28) := HP1_w9.out.below (HS.out)
         have HP2_wa : Hid (Box wa p2 (chV x1 f1 g1 h1 i1) 49) := HP2_w9.out.below (HS.out)
         have HP3_wa : Hid (Box wa p3 (chV x2 f2 g2 h2 i2) 49) := HP3_w9.out.below (HS.out)
         have H10_wa : Hid (XOne wa (chY F0) Y0 sv0 ec0) := H10_w9.out.below (HS.out)
         have HX0_wa : Hid (Box wa q0 (chA Y0 sv0 (.slice none 0 0)) 40) := HX0_w9.out.below (HS.out)
         have H11_wa : Hid (XOne wa (chY F1) Y1 sv1 ec1) := H11_w9.out.below (HS.out)
         have HX1_wa : Hid (Box wa q1 (chA Y1 sv1 (.slice none 0 0)) 40) := HX1_w9.out.below (HS.out)
         have H12_wa : Hid (COne wa (coY F2) Y2 pv2 sv2 ec2) := H12_w9.out.below (HS.out)
         clear HB_w9 HP0_w9 HP1_w9 HP2_w9 HP3_w9 H10_w9 HX0_w9 H11_w9 HX1_w9 H12_w9
         have HX2_wa : Hid (Box wa q2 (coA Y2 pv2 sv2) 34) := HN.out
         clear HS HN hq)
      | refine wpList_load_row rfl 49 _ rfl p3 rfl 49 (chV x2 f2 g2 h2 i2) (0, 0) _ HP3_wa.out Tryz.underlying49 rfl (info_rchA x2 _ _ HN3.out) ?_)
    refine (chto_any x2 f2 g2 h2 i2 wa (HI3.out.below HB_wa.out)).mono ?_
    rintro e wb ⟨⟨ta, tb, tc, td, rfl, hat⟩, hb⟩
    have HB_wb : Hid (Below w.heap.size w wb) := HB_wa.out.trans ((hb).mono HB_wa.out.size)
    have HP0_wb : Hid (Box wb p0 (coV c1 a1 b1 d1 e1) 28) := HP0_wa.out.below (hb)
    have HP1_wb : Hid (Box wb p1 (coV c2 a2 b2 d2 e2) 28) := HP1_wa.out.below (hb)
    have HP2_wb : Hid (Box wb p2 (chV x1 f1 g1 h1 i1) 49) := HP2_wa.out.below (hb)
    have HP3_wb : Hid (Box wb p3 (chV x2 f2 g2 h2 i2) 49) := HP3_wa.out.below (hb)
    have H10_wb : Hid (XOne wb (chY F0) Y0 sv0 ec0) := H10_wa.out.below (hb)
    have HX0_wb : Hid (Box wb q0 (chA Y0 sv0 (.slice none 0 0)) 40) := HX0_wa.out.below (hb)
    have H11_wb : Hid (XOne wb (chY F1) Y1 sv1 ec1) := H11_wa.out.below (hb)
    have HX1_wb : Hid (Box wb q1 (chA Y1 sv1 (.slice none 0 0)) 40) := HX1_wa.out.below (hb)
    have H12_wb : Hid (COne wb (coY F2) Y2 pv2 sv2 ec2) := H12_wa.out.below (hb)
    have HX2_wb : Hid (Box wb q2 (coA Y2 pv2 sv2) 34) := HX2_wa.out.below (hb)
    clear HB_wa HP0_wa HP1_wa HP2_wa HP3_wa H10_wa HX0_wa H11_wa HX1_wa H12_wa HX2_wa
    clear hb
    obtain ⟨F3, hF⟩ : ∃ zz, fewC x2 = zz := ⟨_, rfl⟩
    rw [hF] at hat HT3 HY3 HL3 ⊢
    have HF3 := Lib.hid hF
    clear hF
    have HM3 := Lib.hid hat.n20
    have HAT := Lib.hid hat
    clear hat
    go_wp2_with fail
    refine (commit_any F3 ta tb (.slice tc F3.fs.length td) wb HM3.out rfl HAT.out.exts HT3.out (HE.out.below HB_wb.out)).mono ?_
    rintro e wd ⟨hres, hb⟩
    have HB_wd : Hid (Below w.heap.size w wd) := HB_wb.out.trans ((hb).mono HB_wb.out.size)
    have HP0_wd : Hid (Box wd p0 (coV c1 a1 b1 d1 e1) 28) := HP0_wb.out.below (hb)
    have HP1_wd : Hid (Box wd p1 (coV c2 a2 b2 d2 e2) 28) := HP1_wb.out.below (hb)
    have HP2_wd : Hid (Box wd p2 (chV x1 f1 g1 h1 i1) 49) := HP2_wb.out.below (hb)
    have HP3_wd : Hid (Box wd p3 (chV x2 f2 g2 h2 i2) 49) := HP3_wb.out.below (hb)
    have H10_wd : Hid (XOne wd (chY F0) Y0 sv0 ec0) := H10_wb.out.below (hb)
    have HX0_wd : Hid (Box wd q0 (chA Y0 sv0 (.slice none 0 0)) 40) := HX0_wb.out.below (hb)
    have H11_wd : Hid (XOne wd (chY F1) Y1 sv1 ec1) := H11_wb.out.below (hb)
    have HX1_wd : Hid (Box wd q1 (chA Y1 sv1 (.slice none 0 0)) 40) := HX1_wb.out.below (hb)
    have H12_wd : Hid (COne wd (coY F2) Y2 pv2 sv2 ec2) := H12_wb.out.below (hb)
    have HX2_wd : Hid (Box wd q2 (coA Y2 pv2 sv2) 34) := HX2_wb.out.below (hb)
    clear HB_wb HP0_wb HP1_wb HP2_wb HP3_wb H10_wb HX0_wb H11_wb HX1_wb H12_wb HX2_wb
    clear hb HAT
    obtain ⟨Y3, pv3, sv3, ec3, rfl, hy20, hyo, hone⟩ := hres.one
    have HQ3 := Lib.hid hy20
    have HO3 := Lib.hid hyo
    have H13_wd : Hid (COne wd (coY F3) Y3 pv3 sv3 ec3) := hone
    clear hres hy20 hyo hone
    have HZ : Hid ((wd.alloc (.cells (coA cz (.slice none 0 0) (.slice none 0 0)) 34)).heap[wd.heap.size]? = some (.cells (coA cz (.slice none 0 0) (.slice none 0 0)) 34 (0, 0))) := heap_alloc_new _ _
    have HS : Hid (Below wd.heap.size wd ((wd.alloc (.cells (coA cz (.slice none 0 0) (.slice none 0 0)) 34)).setRow wd.heap.size (coA Y3 pv3 sv3))) := below_setRow ((Below.refl _ _).alloc (Nat.le_refl _) _) (Nat.le_refl _) _
    have HN : Hid (Box ((wd.alloc (.cells (coA cz (.slice none 0 0) (.slice none 0 0)) 34)).setRow wd.heap.size (coA Y3 pv3 sv3)) wd.heap.size (coA Y3 pv3 sv3) 34) := setRow_heap _ _ _ _ _ _ HZ.out
    go_upto_region 7 with (first
      | (refine wpList_store_row rfl 34 _ _ rfl wd.heap.size (coA Y3 pv3 sv3) rfl rfl 34 (coA cz (.slice none 0 0) (.slice none 0 0)) HZ.out (info_coA Y3 _ _ HQ3.out) (by rw [coA_size _ _ _ cz_20, coA_size _ _ _ HQ3.out]) (coA_one _ _ _ HO3.out.1 HO3.out.2) ?_
         obtain ⟨we, hw⟩ : ∃ zz, (wd.alloc (.cells (coA cz (.slice none 0 0) (.slice none 0 0)) 34)).setRow wd.heap.size (coA Y3 pv3 sv3) = zz := ⟨_, rfl⟩
         rw [hw] at HS HN ⊢
         obtain ⟨q3, hq⟩ : ∃ q, wd.heap.size = q := ⟨_, rfl⟩
         rw [hq] at HN ⊢
         clear hw HZ
         have HB_we : Hid (Below w.heap.size w we) := HB_wd.out.trans ((HS.out).mono HB_wd.out.size)
         have HP0_we : Hid (Box we p0 (coV c1 a1 b1 d1 e1) 28) := HP0_wd.out.below (HS.out)
         have HP1_we : Hid (Box we p1 (coV c2 a2 b2 d2 e2) 28) := HP1_wd.out.below (HS.out)
         have HP2_we : Hid (Box we p2 (chV x1 f1 g1 h1 i1) 49) := HP2_wd.out.below (HS.out)
         have HP3_we : Hid (Box we p3 (chV x2 f2 g2 h2 i2) 49) := HP3_wd.out.below (HS.out)
         have H10_we : Hid (XOne we (chY F0) Y0 sv0 ec0) := H10_wd.out.below (HS.out)
         have HX0_we : Hid (Box we q0 (chA Y0 sv0 (.slice none 0 0)) 40) := HX0_wd.out.below (HS.out)
         have H11_we : Hid (XOne we (chY F1) Y1 sv1 ec1) := H11_wd.out.below (HS.out)
         have HX1_we : Hid (Box we q1 (chA Y1 sv1 (.slice none 0 0)) 40) := HX1_wd.out.below (HS.out)
         have H12_we : Hid (COne we (coY F2) Y2 pv2 sv2 ec2) := H12_wd.out.below (HS.out)
         have HX2_we : Hid (Box we q2 (coA Y2 pv2 sv2) 34) := HX2_wd.out.below (HS.out)
         have H13_we : Hid (COne we (coY F3) Y3 pv3 sv3 ec3) := H13_wd.out.below (HS.out)
         clear HB_wd HP0_wd HP1_wd HP2_wd HP3_wd H10_wd HX0_wd H11_wd HX1_wd H12_wd HX2_wd H13_wd
         have HX3_we : Hid (Box we q3 (coA Y3 pv3 sv3) 34) := HN.out
         clear HS HN hq))
    go_cut [86] from 64 (fun v wx => v = .bool false ∧ Below we.heap.size we wx)
    case first =>
      rcases H12_we.out with ⟨hx, hec, hy1, hy2, pa, pc, ya, yc, hpv, hsv, hrow⟩ | ⟨hx, hec⟩
      rotate_left
      · subst hec
        clear hx
        skip
        refine wp_region_noPanic ?_
        refine wp_region_held_drew (S := fun W => Below we.heap.size we W) (by kernel_rfl) ?_ (fun hHeld => ?_)
        · exact (Below.refl _ _).drew
        refine tkV 0 (v := ?_) (hw := ?_) (h := ?_)
        rotate_left
        · intro W hSW
          go_simp
          try with_reducible rfl
        try simp only [Act.put, List.setIfInBounds_toArray, List.set_cons_zero, List.set_cons_succ]
        refine tkV 1 (v := ?_) (hw := ?_) (h := ?_)
        rotate_left
        · intro W hSW
          go_simp
          try with_reducible rfl
        try simp only [Act.put, List.setIfInBounds_toArray, List.set_cons_zero, List.set_cons_succ]
        refine tkV 2 (v := ?_) (hw := ?_) (h := ?_)
        rotate_left
        · intro W hSW
          go_simp
          try with_reducible rfl
        try simp only [Act.put, List.setIfInBounds_toArray, List.set_cons_zero, List.set_cons_succ]
        refine tkN 3 (h := ?_)
        try simp only [Act.put, List.setIfInBounds_toArray, List.set_cons_zero, List.set_cons_succ]
        refine tkN 4 (h := ?_)
        try simp only [Act.put, List.setIfInBounds_toArray, List.set_cons_zero, List.set_cons_succ]
        refine tkV 5 (v := ?_) (hw := ?_) (h := ?_)
        rotate_left
        · intro W hSW
          go_simp
          try with_reducible rfl
        try simp only [Act.put, List.setIfInBounds_toArray, List.set_cons_zero, List.set_cons_succ]
        refine tkV 6 (v := ?_) (hw := ?_) (h := ?_)
        rotate_left
        · intro W hSW
          go_simp
          try with_reducible rfl
        try simp only [Act.put, List.setIfInBounds_toArray, List.set_cons_zero, List.set_cons_succ]
        refine tkN 7 (h := ?_)
        try simp only [Act.put, List.setIfInBounds_toArray, List.set_cons_zero, List.set_cons_succ]
        refine tkN 8 (h := ?_)
        try simp only [Act.put, List.setIfInBounds_toArray, List.set_cons_zero, List.set_cons_succ]
        refine tkN 9 (h := ?_)
        try simp only [Act.put, List.setIfInBounds_toArray, List.set_cons_zero, List.set_cons_succ]
        refine tkN 10 (h := ?_)
        try simp only [Act.put, List.setIfInBounds_toArray, List.set_cons_zero, List.set_cons_succ]
        refine tkN 11 (h := ?_)
        try simp only [Act.put, List.setIfInBounds_toArray, List.set_cons_zero, List.set_cons_succ]
        refine tkN 12 (h := ?_)
        try simp only [Act.put, List.setIfInBounds_toArray, List.set_cons_zero, List.set_cons_succ]
        refine tkN 13 (h := ?_)
        try simp only [Act.put, List.setIfInBounds_toArray, List.set_cons_zero, List.set_cons_succ]
        refine tkN 14 (h := ?_)
        try simp only [Act.put, List.setIfInBounds_toArray, List.set_cons_zero, List.set_cons_succ]
        refine tkN 15 (h := ?_)
        try simp only [Act.put, List.setIfInBounds_toArray, List.set_cons_zero, List.set_cons_succ]
        refine tkN 16 (h := ?_)
        try simp only [Act.put, List.setIfInBounds_toArray, List.set_cons_zero, List.set_cons_succ]
        refine tkN 17 (h := ?_)
        try simp only [Act.put, List.setIfInBounds_toArray, List.set_cons_zero, List.set_cons_succ]
        refine tkN 18 (h := ?_)
        try simp only [Act.put, List.setIfInBounds_toArray, List.set_cons_zero, List.set_cons_succ]
        refine tkN 19 (h := ?_)
        try simp only [Act.put, List.setIfInBounds_toArray, List.set_cons_zero, List.set_cons_succ]
        refine tkN 20 (h := ?_)
        try simp only [Act.put, List.setIfInBounds_toArray, List.set_cons_zero, List.set_cons_succ]
        refine tkN 21 (h := ?_)
        try simp only [Act.put, List.setIfInBounds_toArray, List.set_cons_zero, List.set_cons_succ]
        refine tkV 22 (v := ?_) (hw := ?_) (h := ?_)
        rotate_left
        · intro W hSW
          go_simp
          try with_reducible rfl
        try simp only [Act.put, List.setIfInBounds_toArray, List.set_cons_zero, List.set_cons_succ]
        refine wpAnyH_done (by kernel_rfl) ?_ _
        refine NoPanic.normal ?_
        clear hHeld
        go_wp2_with fail
        go_meet
        exact ⟨rfl, (Below.refl _ _).drew⟩
      subst hec
      rcases H13_we.out with ⟨kx, kec, ky1, ky2, ra, rc, za, zc, kpv, ksv, krow⟩ | ⟨kx, kec⟩
      rotate_left
      · subst kec
        clear hx kx hy1 hy2 hrow
        refine wp_region_noPanic ?_
        refine wp_region_held_drew (S := fun W => Below we.heap.size we W) (by kernel_rfl) ?_ (fun hHeld => ?_)
        · exact (Below.refl _ _).drew
        refine tkV 0 (v := ?_) (hw := ?_) (h := ?_)
        rotate_left
        · intro W hSW
          go_simp
          try with_reducible rfl
        try simp only [Act.put, List.setIfInBounds_toArray, List.set_cons_zero, List.set_cons_succ]
        refine tkV 1 (v := ?_) (hw := ?_) (h := ?_)
        rotate_left
        · intro W hSW
          go_simp
          try with_reducible rfl
        try simp only [Act.put, List.setIfInBounds_toArray, List.set_cons_zero, List.set_cons_succ]
        refine tkV 2 (v := ?_) (hw := ?_) (h := ?_)
        rotate_left
        · intro W hSW
          go_simp
          try with_reducible rfl
        try simp only [Act.put, List.setIfInBounds_toArray, List.set_cons_zero, List.set_cons_succ]
        refine tkV 3 (v := ?_) (hw := ?_) (h := ?_)
        rotate_left
        · intro W hSW
          go_simp
          try with_reducible rfl
        try simp only [Act.put, List.setIfInBounds_toArray, List.set_cons_zero, List.set_cons_succ]
        refine tkV 4 (v := ?_) (hw := ?_) (h := ?_)
        rotate_left
        · intro W hSW
          go_simp
          try with_reducible rfl
        try simp only [Act.put, List.setIfInBounds_toArray, List.set_cons_zero, List.set_cons_succ]
        refine tkV 5 (v := ?_) (hw := ?_) (h := ?_)
        rotate_left
        · intro W hSW
          go_simp
          try with_reducible rfl
        try simp only [Act.put, List.setIfInBounds_toArray, List.set_cons_zero, List.set_cons_succ]
        refine tkV 6 (v := ?_) (hw := ?_) (h := ?_)
        rotate_left
        · intro W hSW
          go_simp
          try with_reducible rfl
        try simp only [Act.put, List.setIfInBounds_toArray, List.set_cons_zero, List.set_cons_succ]
        refine tkN 7 (h := ?_)
        try simp only [Act.put, List.setIfInBounds_toArray, List.set_cons_zero, List.set_cons_succ]
        refine tkN 8 (h := ?_)
        try simp only [Act.put, List.setIfInBounds_toArray, List.set_cons_zero, List.set_cons_succ]
        refine tkN 9 (h := ?_)
        try simp only [Act.put, List.setIfInBounds_toArray, List.set_cons_zero, List.set_cons_succ]
        refine tkN 10 (h := ?_)
        try simp only [Act.put, List.setIfInBounds_toArray, List.set_cons_zero, List.set_cons_succ]
        refine tkN 11 (h := ?_)
        try simp only [Act.put, List.setIfInBounds_toArray, List.set_cons_zero, List.set_cons_succ]
        refine tkN 12 (h := ?_)
        try simp only [Act.put, List.setIfInBounds_toArray, List.set_cons_zero, List.set_cons_succ]
        refine tkN 13 (h := ?_)
        try simp only [Act.put, List.setIfInBounds_toArray, List.set_cons_zero, List.set_cons_succ]
        refine tkN 14 (h := ?_)
        try simp only [Act.put, List.setIfInBounds_toArray, List.set_cons_zero, List.set_cons_succ]
        refine tkN 15 (h := ?_)
        try simp only [Act.put, List.setIfInBounds_toArray, List.set_cons_zero, List.set_cons_succ]
        refine tkN 16 (h := ?_)
        try simp only [Act.put, List.setIfInBounds_toArray, List.set_cons_zero, List.set_cons_succ]
        refine tkN 17 (h := ?_)
        try simp only [Act.put, List.setIfInBounds_toArray, List.set_cons_zero, List.set_cons_succ]
        refine tkN 18 (h := ?_)
        try simp only [Act.put, List.setIfInBounds_toArray, List.set_cons_zero, List.set_cons_succ]
        refine tkN 19 (h := ?_)
        try simp only [Act.put, List.setIfInBounds_toArray, List.set_cons_zero, List.set_cons_succ]
        refine tkN 20 (h := ?_)
        try simp only [Act.put, List.setIfInBounds_toArray, List.set_cons_zero, List.set_cons_succ]
        refine tkN 21 (h := ?_)
        try simp only [Act.put, List.setIfInBounds_toArray, List.set_cons_zero, List.set_cons_succ]
        refine tkV 22 (v := ?_) (hw := ?_) (h := ?_)
        rotate_left
        · intro W hSW
          go_simp
          try with_reducible rfl
        try simp only [Act.put, List.setIfInBounds_toArray, List.set_cons_zero, List.set_cons_succ]
        refine wpAnyH_done (by kernel_rfl) ?_ _
        refine NoPanic.normal ?_
        clear hHeld
        go_wp2_with fail
        go_meet
        exact ⟨rfl, (Below.refl _ _).drew⟩
      subst kec
      subst hsv ksv hpv kpv
      have HZX := Lib.hid hx
      have HKX := Lib.hid kx
      have HZ1 := Lib.hid hy1
      have HZ2 := Lib.hid hy2
      have HK1 := Lib.hid ky1
      have HK2 := Lib.hid ky2
      have HRW := Lib.hid hrow
      have HKW := Lib.hid krow
      have HAP := Lib.hid (apart_co hx kx hy1 hy2 ky1 ky2)
      have HTA := HY2.out _ hx
      have HTB := HY3.out _ kx
      have HLA : Hid (Y2.xs.length ≤ 100000) := by have h2 : Y2.xs.length ≤ 40000 := HTA.1.2.2.2.1; exact Nat.le_trans h2 (by decide)
      have HLB : Hid (Y3.xs.length ≤ 100000) := by have h2 : Y3.xs.length ≤ 40000 := HTB.1.2.2.2.1; exact Nat.le_trans h2 (by decide)
      clear hx kx hy1 hy2 ky1 ky2 hrow krow HTA HTB
      have HWW : Hid (∀ W, Below we.heap.size we W → Below w.heap.size w W) := fun W hW => HB_we.out.trans (hW.mono HB_we.out.size)
      have HVv0 : Hid (Below we.heap.size we we.drew) := (Below.refl _ _).drew
      refine wp_region_noPanic ?_
      refine wp_region_held_drew (S := fun W => Below we.heap.size we W) (by kernel_rfl) ?_ (fun hHeld => ?_)
      · exact (Below.refl _ _).drew
      refine tkV 0 (v := ?_) (hw := ?_) (h := ?_)
      rotate_left
      · intro W hSW
        go_simp
        try with_reducible rfl
      try simp only [Act.put, List.setIfInBounds_toArray, List.set_cons_zero, List.set_cons_succ]
      refine tkV 1 (v := ?_) (hw := ?_) (h := ?_)
      rotate_left
      · intro W hSW
        go_simp
        try with_reducible rfl
      try simp only [Act.put, List.setIfInBounds_toArray, List.set_cons_zero, List.set_cons_succ]
      refine tkV 2 (v := ?_) (hw := ?_) (h := ?_)
      rotate_left
      · intro W hSW
        go_simp
        try with_reducible rfl
      try simp only [Act.put, List.setIfInBounds_toArray, List.set_cons_zero, List.set_cons_succ]
      refine tkV 3 (v := ?_) (hw := ?_) (h := ?_)
      rotate_left
      · intro W hSW
        go_simp
        try with_reducible rfl
      try simp only [Act.put, List.setIfInBounds_toArray, List.set_cons_zero, List.set_cons_succ]
      refine tkV 4 (v := ?_) (hw := ?_) (h := ?_)
      rotate_left
      · intro W hSW
        go_simp
        try with_reducible rfl
      try simp only [Act.put, List.setIfInBounds_toArray, List.set_cons_zero, List.set_cons_succ]
      refine tkV 5 (v := ?_) (hw := ?_) (h := ?_)
      rotate_left
      · intro W hSW
        go_simp
        try with_reducible rfl
      try simp only [Act.put, List.setIfInBounds_toArray, List.set_cons_zero, List.set_cons_succ]
      refine tkV 6 (v := ?_) (hw := ?_) (h := ?_)
      rotate_left
      · intro W hSW
        go_simp
        try with_reducible rfl
      try simp only [Act.put, List.setIfInBounds_toArray, List.set_cons_zero, List.set_cons_succ]
      refine tkY 7 (hy := (yieldsIf_load_mid (by rfl) 34 _ rfl q2 0 rfl (coL Y2 (.slice pa 0 pc) (.slice ya Y2.xs.length yc)) _ (fun W hSW => Box.range (HX2_we.out.below hSW)) Tryz.underlying34 rfl (info_co Y2 _ _ HQ2.out))) (h := ?_)
      try simp only [Act.put, List.setIfInBounds_toArray, List.set_cons_zero, List.set_cons_succ]
      refine tkY 9 (hy := (yieldsIf_load_mid (by rfl) 34 _ rfl q3 0 rfl (coL Y3 (.slice ra 0 rc) (.slice za Y3.xs.length zc)) _ (fun W hSW => Box.range (HX3_we.out.below hSW)) Tryz.underlying34 rfl (info_co Y3 _ _ HQ3.out))) (h := ?_)
      try simp only [Act.put, List.setIfInBounds_toArray, List.set_cons_zero, List.set_cons_succ]
      refine tkY 12 (hy := (yieldsIf_load_mid (by rfl) 49 _ rfl p2 0 rfl (chL x1 (.slice f1 x1.xs.length g1) (.slice h1 x1.fs.length i1)) _ (fun W hSW => Box.range (HP2_we.out.below hSW)) Tryz.underlying49 rfl (info_rch x1 _ _ HN2.out))) (h := ?_)
      try simp only [Act.put, List.setIfInBounds_toArray, List.set_cons_zero, List.set_cons_succ]
      refine tkY 16 (hy := (yieldsIf_load_mid (by rfl) 49 _ rfl p3 0 rfl (chL x2 (.slice f2 x2.xs.length g2) (.slice h2 x2.fs.length i2)) _ (fun W hSW => Box.range (HP3_we.out.below hSW)) Tryz.underlying49 rfl (info_rch x2 _ _ HN3.out))) (h := ?_)
      try simp only [Act.put, List.setIfInBounds_toArray, List.set_cons_zero, List.set_cons_succ]
      refine wpAnyH_ready (rs := [8]) (by kernel_rfl) (by simp) ?_
      refine AllReadyH.cons (by simp only [List.getElem?_toArray, List.getElem?_cons_succ, List.getElem?_cons_zero]; rfl) (fun K hK => ?_) AllReadyH.nil
      go_simp
      refine ((show Calls Tryz.prog 10 #[.agg (coA Y2 (.slice pa 0 pc) (.slice ya Y2.xs.length yc))] _ fun e w' => CoTold e w' Y2 ∧ Below _ _ w' from by rw [coV_nil HZ2.out]; exact coof_any Y2 pa pc ya yc _ (coAt_bare HZ1.out HZ2.out (HRW.out.below HVv0.out)) (by rw [HZ2.out]; exact Nat.zero_le _) HLA.out)).mono ?_
      rintro e v1 ⟨⟨ma, mb, mc, md, rfl, hr1⟩, hb⟩
      have hv : Below we.heap.size we v1 := HVv0.out.trans (hb.mono HVv0.out.size)
      have HVv1 := Lib.hid hv
      have HGm := Lib.hid hr1.exts
      clear hb hv hr1
      go_wp2_with fail
      refine hK.out _ _ (HVv1.out) (fun hHeld2 => ?_)
      clear hK K hHeld
      have hHeld := hHeld2
      clear hHeld2
      try simp only [Act.put, List.setIfInBounds_toArray, List.set_cons_zero, List.set_cons_succ]
      refine wpAnyH_ready (rs := [10]) (by kernel_rfl) (by simp) ?_
      refine AllReadyH.cons (by simp only [List.getElem?_toArray, List.getElem?_cons_succ, List.getElem?_cons_zero]; rfl) (fun K hK => ?_) AllReadyH.nil
      go_simp
      refine ((show Calls Tryz.prog 10 #[.agg (coA Y3 (.slice ra 0 rc) (.slice za Y3.xs.length zc))] _ fun e w' => CoTold e w' Y3 ∧ Below _ _ w' from by rw [coV_nil HK2.out]; exact coof_any Y3 ra rc za zc _ (coAt_bare HK1.out HK2.out (HKW.out.below HVv1.out)) (by rw [HK2.out]; exact Nat.zero_le _) HLB.out)).mono ?_
      rintro e v2 ⟨⟨na, nb, nc, nd, rfl, hr1⟩, hb⟩
      have hv : Below we.heap.size we v2 := HVv1.out.trans (hb.mono HVv1.out.size)
      have HVv2 := Lib.hid hv
      have HGm' := Lib.hid (HGm.out.below hb)
      clear HGm
      have HGm := HGm'
      clear HGm'
      have HGn := Lib.hid hr1.exts
      clear hb hv hr1
      go_wp2_with fail
      refine hK.out _ _ (HVv2.out) (fun hHeld2 => ?_)
      clear hK K hHeld
      have hHeld := hHeld2
      clear hHeld2
      try simp only [Act.put, List.setIfInBounds_toArray, List.set_cons_zero, List.set_cons_succ]
      refine wpAnyH_ready (rs := [11]) (by kernel_rfl) (by simp) ?_
      refine AllReadyH.cons (by simp only [List.getElem?_toArray, List.getElem?_cons_succ, List.getElem?_cons_zero]; rfl) (fun K hK => ?_) AllReadyH.nil
      go_simp
      refine ((show Calls Tryz.prog 17 #[.agg (coV Y2 ma mb mc md), .agg (coV Y3 na nb nc nd)] _ fun e w' => e = .returned (.bool (decide (sameCB Y2 Y3))) ∧ Below _ _ w' from by rw [coV_bare HZ2.out, coV_bare HK2.out]; exact rsamec_any Y2 Y3 ma mb na nb mc md nc nd _ HZ1.out HK1.out HGm.out HGn.out HLA.out HLB.out)).mono ?_
      rintro e v3 ⟨rfl, hb⟩
      have hv : Below we.heap.size we v3 := HVv2.out.trans (hb.mono HVv2.out.size)
      have HVv3 := Lib.hid hv
      have HGm' := Lib.hid (HGm.out.below hb)
      clear HGm
      have HGm := HGm'
      clear HGm'
      have HGn' := Lib.hid (HGn.out.below hb)
      clear HGn
      have HGn := HGn'
      clear HGn'
      clear hb hv
      go_wp2_with fail
      refine hK.out _ _ (HVv3.out) (fun hHeld2 => ?_)
      clear hK K hHeld
      have hHeld := hHeld2
      clear hHeld2
      try simp only [Act.put, List.setIfInBounds_toArray, List.set_cons_zero, List.set_cons_succ]
      refine wpAnyH_ready (rs := [13]) (by kernel_rfl) (by simp) ?_
      refine AllReadyH.cons (by simp only [List.getElem?_toArray, List.getElem?_cons_succ, List.getElem?_cons_zero]; rfl) (fun K hK => ?_) AllReadyH.nil
      go_simp
      have hto := chto_any x1 f1 g1 h1 i1 _ (HI2.out.below (HWW.out _ HVv3.out))
      rw [HF2.out] at hto
      refine hto.mono ?_
      clear hto
      rintro e v4 ⟨⟨sa, sb, sc, sd, rfl, hat⟩, hb⟩
      have hv : Below we.heap.size we v4 := HVv3.out.trans (hb.mono HVv3.out.size)
      have HVv4 := Lib.hid hv
      have HGm' := Lib.hid (HGm.out.below hb)
      clear HGm
      have HGm := HGm'
      clear HGm'
      have HGn' := Lib.hid (HGn.out.below hb)
      clear HGn
      have HGn := HGn'
      clear HGn'
      have HAs := Lib.hid hat
      clear hb hv hat
      go_wp2_with fail
      refine hK.out _ _ (HVv4.out) (fun hHeld2 => ?_)
      clear hK K hHeld
      have hHeld := hHeld2
      clear hHeld2
      try simp only [Act.put, List.setIfInBounds_toArray, List.set_cons_zero, List.set_cons_succ]
      refine wpAnyH_ready (rs := [14]) (by kernel_rfl) (by simp) ?_
      refine AllReadyH.cons (by simp only [List.getElem?_toArray, List.getElem?_cons_succ, List.getElem?_cons_zero]; rfl) (fun K hK => ?_) AllReadyH.nil
      go_simp
      refine (chof_any F2 sa sb sc sd _ HAs.out HL2.out.2 HL2.out.1).mono ?_
      rintro e v5 ⟨⟨ga, gb, gc, gd, rfl, hr1, -⟩, hb⟩
      have hv : Below we.heap.size we v5 := HVv4.out.trans (hb.mono HVv4.out.size)
      have HVv5 := Lib.hid hv
      have HGm' := Lib.hid (HGm.out.below hb)
      clear HGm
      have HGm := HGm'
      clear HGm'
      have HGn' := Lib.hid (HGn.out.below hb)
      clear HGn
      have HGn := HGn'
      clear HGn'
      have HAs' := Lib.hid (HAs.out.below hb)
      clear HAs
      have HAs := HAs'
      clear HAs'
      have HGg := Lib.hid hr1
      clear hb hv hr1
      go_wp2_with fail
      refine hK.out _ _ (HVv5.out) (fun hHeld2 => ?_)
      clear hK K hHeld
      have hHeld := hHeld2
      clear hHeld2
      try simp only [Act.put, List.setIfInBounds_toArray, List.set_cons_zero, List.set_cons_succ]
      refine wpAnyH_ready (rs := [15]) (by kernel_rfl) (by simp) ?_
      refine AllReadyH.cons (by simp only [List.getElem?_toArray, List.getElem?_cons_succ, List.getElem?_cons_zero]; rfl) (fun K hK => ?_) AllReadyH.nil
      go_simp
      refine (own_any F2 (.slice gc F2.fs.length gd) ga gb _ HM2.out).mono ?_
      rintro e v6 ⟨rfl, hb⟩
      have hv : Below we.heap.size we v6 := HVv5.out.trans (hb.mono HVv5.out.size)
      have HVv6 := Lib.hid hv
      have HGm' := Lib.hid (HGm.out.below hb)
      clear HGm
      have HGm := HGm'
      clear HGm'
      have HGn' := Lib.hid (HGn.out.below hb)
      clear HGn
      have HGn := HGn'
      clear HGn'
      have HAs' := Lib.hid (HAs.out.below hb)
      clear HAs
      have HAs := HAs'
      clear HAs'
      have HGg' := Lib.hid (HGg.out.below hb)
      clear HGg
      have HGg := HGg'
      clear HGg'
      clear hb hv
      go_wp2_with fail
      refine hK.out _ _ (HVv6.out) (fun hHeld2 => ?_)
      clear hK K hHeld
      have hHeld := hHeld2
      clear hHeld2
      try simp only [Act.put, List.setIfInBounds_toArray, List.set_cons_zero, List.set_cons_succ]
      refine wpAnyH_ready (rs := [17]) (by kernel_rfl) (by simp) ?_
      refine AllReadyH.cons (by simp only [List.getElem?_toArray, List.getElem?_cons_succ, List.getElem?_cons_zero]; rfl) (fun K hK => ?_) AllReadyH.nil
      go_simp
      have hto := chto_any x2 f2 g2 h2 i2 _ (HI3.out.below (HWW.out _ HVv6.out))
      rw [HF3.out] at hto
      refine hto.mono ?_
      clear hto
      rintro e v7 ⟨⟨ta, tb, tc, td, rfl, hat⟩, hb⟩
      have hv : Below we.heap.size we v7 := HVv6.out.trans (hb.mono HVv6.out.size)
      have HVv7 := Lib.hid hv
      have HGm' := Lib.hid (HGm.out.below hb)
      clear HGm
      have HGm := HGm'
      clear HGm'
      have HGn' := Lib.hid (HGn.out.below hb)
      clear HGn
      have HGn := HGn'
      clear HGn'
      have HAs' := Lib.hid (HAs.out.below hb)
      clear HAs
      have HAs := HAs'
      clear HAs'
      have HGg' := Lib.hid (HGg.out.below hb)
      clear HGg
      have HGg := HGg'
      clear HGg'
      have HAt := Lib.hid hat
      clear hb hv hat
      go_wp2_with fail
      refine hK.out _ _ (HVv7.out) (fun hHeld2 => ?_)
      clear hK K hHeld
      have hHeld := hHeld2
      clear hHeld2
      try simp only [Act.put, List.setIfInBounds_toArray, List.set_cons_zero, List.set_cons_succ]
      refine wpAnyH_ready (rs := [18]) (by kernel_rfl) (by simp) ?_
      refine AllReadyH.cons (by simp only [List.getElem?_toArray, List.getElem?_cons_succ, List.getElem?_cons_zero]; rfl) (fun K hK => ?_) AllReadyH.nil
      go_simp
      refine (chof_any F3 ta tb tc td _ HAt.out HL3.out.2 HL3.out.1).mono ?_
      rintro e v8 ⟨⟨ka, kb, kc, kd, rfl, hr1, -⟩, hb⟩
      have hv : Below we.heap.size we v8 := HVv7.out.trans (hb.mono HVv7.out.size)
      have HVv8 := Lib.hid hv
      have HGm' := Lib.hid (HGm.out.below hb)
      clear HGm
      have HGm := HGm'
      clear HGm'
      have HGn' := Lib.hid (HGn.out.below hb)
      clear HGn
      have HGn := HGn'
      clear HGn'
      have HAs' := Lib.hid (HAs.out.below hb)
      clear HAs
      have HAs := HAs'
      clear HAs'
      have HGg' := Lib.hid (HGg.out.below hb)
      clear HGg
      have HGg := HGg'
      clear HGg'
      have HAt' := Lib.hid (HAt.out.below hb)
      clear HAt
      have HAt := HAt'
      clear HAt'
      have HGk := Lib.hid hr1
      clear hb hv hr1
      go_wp2_with fail
      refine hK.out _ _ (HVv8.out) (fun hHeld2 => ?_)
      clear hK K hHeld
      have hHeld := hHeld2
      clear hHeld2
      try simp only [Act.put, List.setIfInBounds_toArray, List.set_cons_zero, List.set_cons_succ]
      refine wpAnyH_ready (rs := [19]) (by kernel_rfl) (by simp) ?_
      refine AllReadyH.cons (by simp only [List.getElem?_toArray, List.getElem?_cons_succ, List.getElem?_cons_zero]; rfl) (fun K hK => ?_) AllReadyH.nil
      go_simp
      refine (own_any F3 (.slice kc F3.fs.length kd) ka kb _ HM3.out).mono ?_
      rintro e v9 ⟨rfl, hb⟩
      have hv : Below we.heap.size we v9 := HVv8.out.trans (hb.mono HVv8.out.size)
      have HVv9 := Lib.hid hv
      have HGm' := Lib.hid (HGm.out.below hb)
      clear HGm
      have HGm := HGm'
      clear HGm'
      have HGn' := Lib.hid (HGn.out.below hb)
      clear HGn
      have HGn := HGn'
      clear HGn'
      have HAs' := Lib.hid (HAs.out.below hb)
      clear HAs
      have HAs := HAs'
      clear HAs'
      have HGg' := Lib.hid (HGg.out.below hb)
      clear HGg
      have HGg := HGg'
      clear HGg'
      have HAt' := Lib.hid (HAt.out.below hb)
      clear HAt
      have HAt := HAt'
      clear HAt'
      have HGk' := Lib.hid (HGk.out.below hb)
      clear HGk
      have HGk := HGk'
      clear HGk'
      clear hb hv
      go_wp2_with fail
      refine hK.out _ _ (HVv9.out) (fun hHeld2 => ?_)
      clear hK K hHeld
      have hHeld := hHeld2
      clear hHeld2
      try simp only [Act.put, List.setIfInBounds_toArray, List.set_cons_zero, List.set_cons_succ]
      refine wpAnyH_ready (rs := [20]) (by kernel_rfl) (by simp) ?_
      refine AllReadyH.cons (by simp only [List.getElem?_toArray, List.getElem?_cons_succ, List.getElem?_cons_zero]; rfl) (fun K hK => ?_) AllReadyH.nil
      go_simp
      refine ((show Calls Tryz.prog 14 #[.agg (chA (ownX F2) (.slice ga F2.xs.length gb) (.slice none 0 0)), .agg (chA (ownX F3) (.slice ka F3.xs.length kb) (.slice none 0 0))] _ fun e w' => e = .returned (.bool (decide (sameXB (ownX F2) (ownX F3)))) ∧ Below _ _ w' from rsamex_any (ownX F2) (ownX F3) none 0 none 0 ga gb ka kb _ rfl rfl HGg.out HGk.out HL2.out.2 HL3.out.2)).mono ?_
      rintro e v10 ⟨rfl, hb⟩
      have hv : Below we.heap.size we v10 := HVv9.out.trans (hb.mono HVv9.out.size)
      have HVv10 := Lib.hid hv
      have HGm' := Lib.hid (HGm.out.below hb)
      clear HGm
      have HGm := HGm'
      clear HGm'
      have HGn' := Lib.hid (HGn.out.below hb)
      clear HGn
      have HGn := HGn'
      clear HGn'
      have HAs' := Lib.hid (HAs.out.below hb)
      clear HAs
      have HAs := HAs'
      clear HAs'
      have HGg' := Lib.hid (HGg.out.below hb)
      clear HGg
      have HGg := HGg'
      clear HGg'
      have HAt' := Lib.hid (HAt.out.below hb)
      clear HAt
      have HAt := HAt'
      clear HAt'
      have HGk' := Lib.hid (HGk.out.below hb)
      clear HGk
      have HGk := HGk'
      clear HGk'
      clear hb hv
      go_wp2_with fail
      refine hK.out _ _ (HVv10.out) (fun hHeld2 => ?_)
      clear hK K hHeld
      have hHeld := hHeld2
      clear hHeld2
      try simp only [Act.put, List.setIfInBounds_toArray, List.set_cons_zero, List.set_cons_succ]
      rw [HAP.out]
      refine tkY 21 (hy := (yieldsIf_eql (by rfl) .neq 4 _ _ _ rfl (.bool (decide (sameXB (ownX F2) (ownX F3)))) (.bool (decide (sameXB (ownX F2) (ownX F3)))) rfl rfl (.bool false) (guard_neqb _ _ _ _) (neq_bool _))) (h := ?_)
      try simp only [Act.put, List.setIfInBounds_toArray, List.set_cons_zero, List.set_cons_succ]
      refine tkV 22 (v := ?_) (hw := ?_) (h := ?_)
      rotate_left
      · intro W hSW
        go_simp
        try with_reducible rfl
      try simp only [Act.put, List.setIfInBounds_toArray, List.set_cons_zero, List.set_cons_succ]
      refine wpAnyH_done (by kernel_rfl) ?_ _
      refine NoPanic.normal ?_
      clear hHeld
      go_wp2_with fail
      go_meet
      exact ⟨rfl, HVv10.out⟩
    case rest =>
      obtain ⟨rfl, hcb⟩ := hcut
      generalize wc = wf at *
      have HB_wf : Hid (Below w.heap.size w wf) := HB_we.out.trans ((hcb).mono HB_we.out.size)
      have HP0_wf : Hid (Box wf p0 (coV c1 a1 b1 d1 e1) 28) := HP0_we.out.below (hcb)
      have HP1_wf : Hid (Box wf p1 (coV c2 a2 b2 d2 e2) 28) := HP1_we.out.below (hcb)
      have HP2_wf : Hid (Box wf p2 (chV x1 f1 g1 h1 i1) 49) := HP2_we.out.below (hcb)
      have HP3_wf : Hid (Box wf p3 (chV x2 f2 g2 h2 i2) 49) := HP3_we.out.below (hcb)
      have H10_wf : Hid (XOne wf (chY F0) Y0 sv0 ec0) := H10_we.out.below (hcb)
      have HX0_wf : Hid (Box wf q0 (chA Y0 sv0 (.slice none 0 0)) 40) := HX0_we.out.below (hcb)
      have H11_wf : Hid (XOne wf (chY F1) Y1 sv1 ec1) := H11_we.out.below (hcb)
      have HX1_wf : Hid (Box wf q1 (chA Y1 sv1 (.slice none 0 0)) 40) := HX1_we.out.below (hcb)
      have H12_wf : Hid (COne wf (coY F2) Y2 pv2 sv2 ec2) := H12_we.out.below (hcb)
      have HX2_wf : Hid (Box wf q2 (coA Y2 pv2 sv2) 34) := HX2_we.out.below (hcb)
      have H13_wf : Hid (COne wf (coY F3) Y3 pv3 sv3 ec3) := H13_we.out.below (hcb)
      have HX3_wf : Hid (Box wf q3 (coA Y3 pv3 sv3) 34) := HX3_we.out.below (hcb)
      clear HB_we HP0_we HP1_we HP2_we HP3_we H10_we HX0_we H11_we HX1_we H12_we HX2_we H13_we HX3_we
      clear hcb
      go_wp2_with fail
      refine (known_any wf (HE.out.below HB_wf.out)).mono ?_
      rintro e wg ⟨rfl, hb⟩
      have HBG := Lib.hid (HB_wf.out.trans (hb.mono HB_wf.out.size))
      clear hb
      go_wp2_with fail
      go_ret
      exact ⟨rfl, HBG.out⟩
end Go.Proofs.YtkpiinjhcckhfaaGreatDoor
