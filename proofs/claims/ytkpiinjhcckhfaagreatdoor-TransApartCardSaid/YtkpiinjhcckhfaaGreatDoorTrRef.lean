/- The document's Alone and Own; the chapter's example: the walks. -/
import Derived.Test.YtkpiinjhcckhfaaGreatDoorTrFewC
namespace Go.Proofs.YtkpiinjhcckhfaaGreatDoor
open Go.RowKit Plain Go.ChangeShapes Go.WideShapes Go.ChangeAt Go.Great
set_option linter.unusedVariables false
set_option linter.unusedSimpArgs false
theorem build_rcoX (a c : WX) (xs : List (ByteArray × ByteArray)) (xa : Option Addr) (n xc : Nat) (s : ByteArray) (W : World) : (Instr.build 28 #[(2, .agg (whoA a)), (3, .agg (whoA c)), (4, .slice xa n xc), (5, .string s)]).run Tryz.prog W = .ok (.agg (coA ⟨zeros20, [], a, c, xs, s⟩ (.slice none 0 0) (.slice xa n xc))) W := by
  obtain ⟨a1, a2, a3, a4⟩ := a
  obtain ⟨c1, c2, c3, c4⟩ := c
  exact run_build W _ _ _ (by kernel_rfl)
theorem build_rchX (u d : ByteArray) (t z : Int) (xs : List (ByteArray × ByteArray)) (xa : Option Addr) (n xc : Nat) (W : World) : (Instr.build 49 #[(1, .string u), (2, .int .i64 t), (3, .int .i64 z), (4, .slice xa n xc), (6, .string d)]).run Tryz.prog W = .ok (.agg (chA ⟨zeros20, u, t, z, xs, [], d⟩ (.slice xa n xc) (.slice none 0 0))) W := run_build W _ _ _ (by kernel_rfl)
theorem map_five6 (a : Act) (x y z u s : Operand) (v1 v2 v3 v4 v5 : Value) (h1 : a.eval x = v1) (h2 : a.eval y = v2) (h3 : a.eval z = v3) (h4 : a.eval u = v4) (h5 : a.eval s = v5) : (#[(1, x), (2, y), (3, z), (4, u), (6, s)] : Array (Nat × Operand)).map (fun (i, x) => (i, a.eval x)) = #[(1, v1), (2, v2), (3, v3), (4, v4), (6, v5)] := by simp [h1, h2, h3, h4, h5]
theorem build_coK (a c : WX) (s : ByteArray) (W : World) : (Instr.build 34 #[(2, .agg (whoA a)), (3, .agg (whoA c)), (5, .string s)]).run Tryz.prog W = .ok (.agg (coA ⟨zeros20, [], a, c, [], s⟩ (.slice none 0 0) (.slice none 0 0))) W := by
  obtain ⟨a1, a2, a3, a4⟩ := a
  obtain ⟨c1, c2, c3, c4⟩ := c
  exact run_build W _ _ _ (by kernel_rfl)
theorem map_three235 (a : Act) (x y z : Operand) (u v t : Value) (h1 : a.eval x = u) (h2 : a.eval y = v) (h3 : a.eval z = t) : (#[(2, x), (3, y), (5, z)] : Array (Nat × Operand)).map (fun (i, x) => (i, a.eval x)) = #[(2, u), (3, v), (5, t)] := by simp [h1, h2, h3]
set_option maxRecDepth 100000 in
set_option maxHeartbeats 32000000 in
theorem alone_any (c : CC) (pv : Value) (xa : Option Addr) (xc : Nat) (w : World) (h20 : c.tr.length = 20) :
    Calls Tryz.prog 23 #[.agg (coA c pv (.slice xa c.xs.length xc))] w fun e w' => e = .returned (.agg (coA (aloneC c) (.slice none 0 0) (.slice xa c.xs.length xc))) ∧ Below w.heap.size w w' := by
  have H20 := Lib.hid h20
  obtain ⟨n, hN⟩ : ∃ n, c.xs.length = n := ⟨_, rfl⟩
  rw [hN]
  have hzo := zero_rco
  clear hN h20
  have HB_0 : Hid (Below w.heap.size w ((w.alloc (.cells (coA c pv (.slice xa n xc)) 28)).alloc (.cells (coA cz (.slice none 0 0) (.slice none 0 0)) 28))) := ((Below.refl _ _).alloc (Nat.le_refl _) _).alloc (by simp) _
  have HA_0 : Hid (Box ((w.alloc (.cells (coA c pv (.slice xa n xc)) 28)).alloc (.cells (coA cz (.slice none 0 0) (.slice none 0 0)) 28)) w.heap.size (coA c pv (.slice xa n xc)) 28) := (Box.new _ _ _).alloc _
  have HRS_0 : Hid (Box ((w.alloc (.cells (coA c pv (.slice xa n xc)) 28)).alloc (.cells (coA cz (.slice none 0 0) (.slice none 0 0)) 28)) (w.heap.size + 1) (coA cz (.slice none 0 0) (.slice none 0 0)) 28) := by
    have h := Box.new (w.alloc (.cells (coA c pv (.slice xa n xc)) 28)) (coA cz (.slice none 0 0) (.slice none 0 0)) 28
    rwa [show (w.alloc (.cells (coA c pv (.slice xa n xc)) 28)).heap.size = w.heap.size + 1 by simp] at h
  go_enter Tryz.func23, Tryz.ntmps23
  go_wp2_with ((with_reducible refine (show wpList _ _ _ (⟨some 3, _, _, _, _, _⟩ :: _) _ _ from ?_)); refine Hid.out ?_)
  refine unhid ?_
  obtain ⟨w0, hw0⟩ : ∃ X, (w.alloc (.cells (coA c pv (.slice xa n xc)) 28)).alloc (.cells (coA cz (.slice none 0 0) (.slice none 0 0)) 28) = X := ⟨_, rfl⟩
  rw [hw0] at HB_0 HA_0 HRS_0 ⊢
  obtain ⟨p0, hp0⟩ : ∃ p, w.heap.size = p := ⟨_, rfl⟩
  obtain ⟨p1, hp1⟩ : ∃ p, p0 + 1 = p := ⟨_, rfl⟩
  rw [hp0] at HA_0 HRS_0
  rw [hp1] at HRS_0
  simp only [hp0, hp1]
  have HP : Hid (w.heap.size = p0 ∧ p0 + 1 = p1) := ⟨hp0, hp1⟩
  have HB_w0 : Hid (Below w.heap.size w w0) := HB_0.out
  have HA_w0 := HA_0
  have HRS_w0 := HRS_0
  clear hw0 hp0 hp1 HB_0 HA_0 HRS_0
  have hc1 := (HA_w0.out.co H20.out).exts
  have hc2 := (HA_w0.out.co H20.out).msg
  go_wp2_with (first
    | refine wpList_load_mid rfl 25 _ rfl p0 21 rfl (whoL c.a) _ (HA_w0.out.co H20.out).author Tryz.underlying25 rfl (info_rwhoL _) ?_
    | refine wpList_load_mid rfl 25 _ rfl p0 25 rfl (whoL c.c) _ (HA_w0.out.co H20.out).committer Tryz.underlying25 rfl (info_rwhoL _) ?_
    | refine wpList_buildQ rfl 28 _ rfl #[(2, .agg (whoA c.a)), (3, .agg (whoA c.c)), (4, .slice xa n xc), (5, .string c.m)] (map_four5 _ _ _ _ _ _ _ _ _ rfl rfl rfl rfl) _ (build_rcoX _ _ c.xs _ _ _ _) ?_
    | refine wpList_store_row rfl 28 _ _ rfl p1 (coA ⟨zeros20, [], c.a, c.c, c.xs, c.m⟩ (.slice none 0 0) (.slice xa n xc)) rfl rfl 28 (coA cz (.slice none 0 0) (.slice none 0 0)) HRS_w0.out (info_rcoA ⟨zeros20, [], c.a, c.c, c.xs, c.m⟩ _ _ zeros_20) rfl (coA_one _ _ _ rfl rfl) ?_)
  refine bodyPost_ret (results_cell_row Tryz.results23 _ _ p1 28 (coA ⟨zeros20, [], c.a, c.c, c.xs, c.m⟩ (.slice none 0 0) (.slice xa n xc)) (0, 0) _ rfl (Box.setRow HRS_w0.out) Tryz.underlying28 rfl (info_rcoA ⟨zeros20, [], c.a, c.c, c.xs, c.m⟩ _ _ zeros_20)) rfl ⟨rfl, below_setRow HB_w0.out (by have := HP.out; omega) _⟩
set_option maxRecDepth 100000 in
set_option maxHeartbeats 32000000 in
theorem own_any (x : CX) (fv : Value) (xa : Option Addr) (xc : Nat) (w : World) (h20 : x.n.length = 20) :
    Calls Tryz.prog 21 #[.agg (chA x (.slice xa x.xs.length xc) fv)] w fun e w' => e = .returned (.agg (chA (ownX x) (.slice xa x.xs.length xc) (.slice none 0 0))) ∧ Below w.heap.size w w' := by
  have H20 := Lib.hid h20
  obtain ⟨n, hN⟩ : ∃ n, x.xs.length = n := ⟨_, rfl⟩
  rw [hN]
  have hzo := zero_rch
  clear hN h20
  have HB_0 : Hid (Below w.heap.size w ((w.alloc (.cells (chA x (.slice xa n xc) fv) 49)).alloc (.cells (chA czero (.slice none 0 0) (.slice none 0 0)) 49))) := ((Below.refl _ _).alloc (Nat.le_refl _) _).alloc (by simp) _
  have HA_0 : Hid (Box ((w.alloc (.cells (chA x (.slice xa n xc) fv) 49)).alloc (.cells (chA czero (.slice none 0 0) (.slice none 0 0)) 49)) w.heap.size (chA x (.slice xa n xc) fv) 49) := (Box.new _ _ _).alloc _
  have HRS_0 : Hid (Box ((w.alloc (.cells (chA x (.slice xa n xc) fv) 49)).alloc (.cells (chA czero (.slice none 0 0) (.slice none 0 0)) 49)) (w.heap.size + 1) (chA czero (.slice none 0 0) (.slice none 0 0)) 49) := by
    have h := Box.new (w.alloc (.cells (chA x (.slice xa n xc) fv) 49)) (chA czero (.slice none 0 0) (.slice none 0 0)) 49
    rwa [show (w.alloc (.cells (chA x (.slice xa n xc) fv) 49)).heap.size = w.heap.size + 1 by simp] at h
  go_enter Tryz.func21, Tryz.ntmps21
  go_wp2_with ((with_reducible refine (show wpList _ _ _ (⟨some 3, _, _, _, _, _⟩ :: _) _ _ from ?_)); refine Hid.out ?_)
  refine unhid ?_
  obtain ⟨w0, hw0⟩ : ∃ X, (w.alloc (.cells (chA x (.slice xa n xc) fv) 49)).alloc (.cells (chA czero (.slice none 0 0) (.slice none 0 0)) 49) = X := ⟨_, rfl⟩
  rw [hw0] at HB_0 HA_0 HRS_0 ⊢
  obtain ⟨p0, hp0⟩ : ∃ p, w.heap.size = p := ⟨_, rfl⟩
  obtain ⟨p1, hp1⟩ : ∃ p, p0 + 1 = p := ⟨_, rfl⟩
  rw [hp0] at HA_0 HRS_0
  rw [hp1] at HRS_0
  simp only [hp0, hp1]
  have HP : Hid (w.heap.size = p0 ∧ p0 + 1 = p1) := ⟨hp0, hp1⟩
  have HB_w0 : Hid (Below w.heap.size w w0) := HB_0.out
  have HA_w0 := HA_0
  have HRS_w0 := HRS_0
  clear hw0 hp0 hp1 HB_0 HA_0 HRS_0
  have hc0 := (HA_w0.out.ch H20.out).u
  have hc1 := (HA_w0.out.ch H20.out).t
  have hc2 := (HA_w0.out.ch H20.out).z
  have hc3 := (HA_w0.out.ch H20.out).xs
  have hc4 := (HA_w0.out.ch H20.out).d
  go_wp2_with (first
    | refine wpList_buildQ rfl 49 _ rfl #[(1, .string x.u), (2, .int .i64 x.t), (3, .int .i64 x.z), (4, .slice xa n xc), (6, .string x.d)] (map_five6 _ _ _ _ _ _ _ _ _ _ _ rfl rfl rfl rfl rfl) _ (build_rchX _ _ _ _ x.xs _ _ _) ?_
    | refine wpList_store_row rfl 49 _ _ rfl p1 (chA ⟨zeros20, x.u, x.t, x.z, x.xs, [], x.d⟩ (.slice xa n xc) (.slice none 0 0)) rfl rfl 49 (chA czero (.slice none 0 0) (.slice none 0 0)) HRS_w0.out (info_rchA ⟨zeros20, x.u, x.t, x.z, x.xs, [], x.d⟩ _ _ zeros_20) rfl (chA_one _ _ _ rfl rfl) ?_)
  refine bodyPost_ret (results_cell_row Tryz.results21 _ _ p1 49 (chA ⟨zeros20, x.u, x.t, x.z, x.xs, [], x.d⟩ (.slice xa n xc) (.slice none 0 0)) (0, 0) _ rfl (Box.setRow HRS_w0.out) Tryz.underlying49 rfl (info_rchA ⟨zeros20, x.u, x.t, x.z, x.xs, [], x.d⟩ _ _ zeros_20)) rfl ⟨rfl, below_setRow HB_w0.out (by have := HP.out; omega) _⟩
/-! ### The chapter's example -/
def kW : WX := ⟨⟨#[65]⟩, ⟨#[97]⟩, 5, ⟨#[45, 48, 49, 48, 48]⟩⟩
def kC : CC := ⟨zeros20, [], kW, kW, [], ⟨#[109]⟩⟩
theorem kW_small : WhoSmall kW := ⟨by show (1 : Nat) ≤ 40000; decide, by show (1 : Nat) ≤ 40000; decide, by show (5 : Nat) ≤ 40000; decide, by show (-9223372036854775808 : Int) ≤ 5 ∧ (5 : Int) ≤ _; omega⟩
theorem kC_tc : TC kC := ⟨⟨kW_small, kW_small, Nat.zero_le _, Nat.zero_le _, (fun e he => by cases he), by show (1 : Nat) ≤ 40000; decide⟩, (fun e he => by cases he), by show (1 : Nat) ≤ 15000; decide⟩
theorem kC_yes : coR kC = true := by decide +kernel
theorem kC_ch : chY kC = some (overC kC) := by
  rw [chY_step]
  unfold stepC
  rw [if_pos kC_yes]
  rfl
theorem kC_co : coY (overC kC) = some kC := chY_back kC_ch
theorem kC_len : (printC { aloneC kC with m := ⟨#[]⟩ }).length ≤ 15000 := by decide +kernel
theorem kC_tx : TX (overC kC) := by
  refine ⟨⟨by show (5 : Nat) ≤ 18001; decide, by show (1 : Nat) ≤ 18001; decide, by show (1 : Nat) ≤ 18001; decide, Nat.zero_le _, fun e he => ?_, (fun p hp => by cases hp), by show (-9223372036854775808 : Int) ≤ 5 ∧ (5 : Int) ≤ _; omega, by show (-9223372036854775808 : Int) ≤ 0 ∧ (0 : Int) ≤ _; omega⟩, fun e he => ?_, by show (1 : Nat) ≤ 15000; decide⟩
  · have he : e ∈ [((⟨#[103, 105, 116]⟩ : ByteArray), txt (printC { aloneC kC with m := ⟨#[]⟩ }))] := he
    rw [List.mem_singleton] at he
    subst he
    exact ⟨by show (3 : Nat) ≤ 18001; decide, Nat.le_trans (by rw [txt_size]; exact kC_len) (by decide)⟩
  · have he : e ∈ [((⟨#[103, 105, 116]⟩ : ByteArray), txt (printC { aloneC kC with m := ⟨#[]⟩ }))] := he
    rw [List.mem_singleton] at he
    subst he
    rw [txt_list]
    exact kC_len
theorem kX_parts : (overC kC).u = ⟨#[65, 32, 60, 97, 62]⟩ ∧ (overC kC).t = 5 ∧ ∃ V, (overC kC).xs = [(⟨#[103, 105, 116]⟩, V)] := ⟨rfl, rfl, _, rfl⟩
set_option maxRecDepth 100000 in
set_option maxHeartbeats 32000000 in
theorem known_any (w : World) (hE : EnvC w) : Calls Tryz.prog 13 #[] w fun e w' => e = .returned (.bool true) ∧ Below w.heap.size w w' := by
  have HE := Lib.hid hE
  have hzw := zero_whoX
  have hzc := zero_ch
  have hzo := zero_co
  have HB_w : Hid (Below w.heap.size w w) := Below.refl _ _
  clear hE
  have HZ : Hid ((w.alloc (.cells (whoA wzero) 31)).heap[w.heap.size]? = some (.cells (whoA wzero) 31 (0, 0))) := heap_alloc_new _ _
  have HS : Hid (Below w.heap.size w ((w.alloc (.cells (whoA wzero) 31)).setRow w.heap.size (whoA kW))) := below_setRow ((Below.refl _ _).alloc (Nat.le_refl _) _) (Nat.le_refl _) _
  have HN : Hid (Box ((w.alloc (.cells (whoA wzero) 31)).setRow w.heap.size (whoA kW)) w.heap.size (whoA kW) 31) := setRow_heap _ _ _ _ _ _ HZ.out
  go_enter Tryz.func13, Tryz.ntmps13
  go_wp2_with (first
    | refine wpList_buildQ rfl 31 _ rfl #[(0, .string ⟨#[65]⟩), (1, .string ⟨#[97]⟩), (2, .int .i64 5), (3, .string ⟨#[45, 48, 49, 48, 48]⟩)] (map_fourA _ _ _ _ _ _ _ _ _ rfl rfl rfl rfl) _ (build_whoX _ _ _ _) ?_
    | (refine wpList_store_row rfl 31 _ _ rfl w.heap.size (whoA kW) rfl rfl 31 (whoA wzero) HZ.out (info_whoA _) rfl (who_one _) ?_
       obtain ⟨w1, hw⟩ : ∃ zz, (w.alloc (.cells (whoA wzero) 31)).setRow w.heap.size (whoA kW) = zz := ⟨_, rfl⟩
       rw [hw] at HS HN ⊢
       obtain ⟨q1, hq⟩ : ∃ q, w.heap.size = q := ⟨_, rfl⟩
       rw [hq] at HN ⊢
       clear hw HZ
       have HB_w1 : Hid (Below w.heap.size w w1) := HB_w.out.trans ((HS.out).mono HB_w.out.size)
       clear HB_w
       have HW1_w1 : Hid (Box w1 q1 (whoA kW) 31) := HN.out
       clear HS HN hq)
    | refine wpList_load_row rfl 31 _ rfl q1 rfl 31 (whoA kW) (0, 0) _ HW1_w1.out Tryz.underlying31 rfl (info_whoA _) ?_
    | refine wpList_buildQ rfl 34 _ rfl #[(2, .agg (whoA kW)), (3, .agg (whoA kW)), (5, .string ⟨#[109]⟩)] (map_three235 _ _ _ _ _ _ _ rfl rfl rfl) _ (build_coK _ _ _) ?_)
  have hch := change_any kC none 0 (.slice none 0 0) w1 zeros_20 rfl (.inl rfl) kC_tc (HE.out.below HB_w1.out)
  rw [kC_ch] at hch
  refine (hch).mono ?_
  rintro e w2 ⟨⟨ya, yc, rfl, hy1, hy2, hyr⟩, hb⟩
  have HB_w2 : Hid (Below w.heap.size w w2) := HB_w1.out.trans ((hb).mono HB_w1.out.size)
  have HW1_w2 : Hid (Box w2 q1 (whoA kW) 31) := HW1_w1.out.below (hb)
  clear HB_w1 HW1_w1
  clear hb
  clear hch
  have HYR_w2 : Hid (Rw w1.heap.size w2 ya (overC kC).xs) := hyr
  clear hyr
  obtain ⟨k1, k2, V, k3⟩ := kX_parts
  have HKX := Lib.hid kC_tx
  have HKO := Lib.hid kC_co
  obtain ⟨XK, hX⟩ : ∃ y, overC kC = y := ⟨_, rfl⟩
  have HYR_w2' := HYR_w2.out
  rw [hX] at k1 k2 k3 HKX HKO hy1 hy2 HYR_w2' ⊢
  clear HYR_w2
  have HYR_w2 : Hid (Rw w1.heap.size w2 ya XK.xs) := HYR_w2'
  clear hX HYR_w2'
  have HX20 : Hid (XK.n.length = 20) := by rw [hy1]; exact zeros_20
  have hxl : XK.xs.length = 1 := by rw [k3]; rfl
  have HXL := Lib.hid hxl
  rw [hxl]
  have HK1 := Lib.hid k1
  have HK2 := Lib.hid k2
  have HK3 := Lib.hid k3
  clear hy1 hy2 hxl k1 k2 k3
  have HKEY : Hid (∀ W, RowAt 2 extE W ya XK.xs → ∃ b off, ya = some ⟨b, off, none⟩ ∧ W.cell? ⟨b, off, none⟩ = some (.string ⟨#[103, 105, 116]⟩)) := fun W h => by
    rcases h with h0 | ⟨b, off, e, hl, hc⟩
    · rw [HXL.out] at h0; cases h0
    · have h1 := range_key (hc 0 _ (by rw [HK3.out]; rfl))
      rw [show off + 0 * 2 = off by omega] at h1
      exact ⟨b, off, e, h1⟩
  have HZ : Hid ((w2.alloc (.cells (chA czero (.slice none 0 0) (.slice none 0 0)) 40)).heap[w2.heap.size]? = some (.cells (chA czero (.slice none 0 0) (.slice none 0 0)) 40 (0, 0))) := heap_alloc_new _ _
  have HS : Hid (Below w2.heap.size w2 ((w2.alloc (.cells (chA czero (.slice none 0 0) (.slice none 0 0)) 40)).setRow w2.heap.size (chA XK (.slice ya 1 yc) (.slice none 0 0)))) := below_setRow ((Below.refl _ _).alloc (Nat.le_refl _) _) (Nat.le_refl _) _
  have HN : Hid (Box ((w2.alloc (.cells (chA czero (.slice none 0 0) (.slice none 0 0)) 40)).setRow w2.heap.size (chA XK (.slice ya 1 yc) (.slice none 0 0))) w2.heap.size (chA XK (.slice ya 1 yc) (.slice none 0 0)) 40) := setRow_heap _ _ _ _ _ _ HZ.out
  go_wp2_with (first
    | (refine wpList_store_row rfl 40 _ _ rfl w2.heap.size (chA XK (.slice ya 1 yc) (.slice none 0 0)) rfl rfl 40 (chA czero (.slice none 0 0) (.slice none 0 0)) HZ.out (info_chA XK _ _ HX20.out) (by rw [chA_size _ _ _ czero_20, chA_size _ _ _ HX20.out]) (chA_one _ _ _ rfl rfl) ?_
       obtain ⟨w3, hw⟩ : ∃ zz, (w2.alloc (.cells (chA czero (.slice none 0 0) (.slice none 0 0)) 40)).setRow w2.heap.size (chA XK (.slice ya 1 yc) (.slice none 0 0)) = zz := ⟨_, rfl⟩
       rw [hw] at HS HN ⊢
       obtain ⟨q2, hq⟩ : ∃ q, w2.heap.size = q := ⟨_, rfl⟩
       rw [hq] at HN ⊢
       clear hw HZ
       have HB_w3 : Hid (Below w.heap.size w w3) := HB_w2.out.trans ((HS.out).mono HB_w2.out.size)
       have HW1_w3 : Hid (Box w3 q1 (whoA kW) 31) := HW1_w2.out.below (HS.out)
       have HYR_w3 : Hid (Rw w1.heap.size w3 ya XK.xs) := HYR_w2.out.below (HS.out)
       clear HB_w2 HW1_w2 HYR_w2
       have HXB_w3 : Hid (Box w3 q2 (chA XK (.slice ya 1 yc) (.slice none 0 0)) 40) := HN.out
       clear HS HN hq)
    | refine wpList_load_row rfl 40 _ rfl q2 rfl 40 (chA XK (.slice ya 1 yc) (.slice none 0 0)) (0, 0) _ HXB_w3.out Tryz.underlying40 rfl (info_chA XK _ _ HX20.out) ?_)
  have hco := commit_any XK ya yc (.slice none 0 0) w3 HX20.out rfl HYR_w3.out.row HKX.out (HE.out.below HB_w3.out)
  rw [HKO.out, HXL.out] at hco
  refine (hco).mono ?_
  rintro e w4 ⟨⟨pp, pq, va, vc, rfl, -, -, hvr⟩, hb⟩
  have HB_w4 : Hid (Below w.heap.size w w4) := HB_w3.out.trans ((hb).mono HB_w3.out.size)
  have HW1_w4 : Hid (Box w4 q1 (whoA kW) 31) := HW1_w3.out.below (hb)
  have HYR_w4 : Hid (Rw w1.heap.size w4 ya XK.xs) := HYR_w3.out.below (hb)
  have HXB_w4 : Hid (Box w4 q2 (chA XK (.slice ya 1 yc) (.slice none 0 0)) 40) := HXB_w3.out.below (hb)
  clear HB_w3 HW1_w3 HYR_w3 HXB_w3
  clear hb
  clear hco hvr
  have HZ : Hid ((w4.alloc (.cells (coA cz (.slice none 0 0) (.slice none 0 0)) 34)).heap[w4.heap.size]? = some (.cells (coA cz (.slice none 0 0) (.slice none 0 0)) 34 (0, 0))) := heap_alloc_new _ _
  have HS : Hid (Below w4.heap.size w4 ((w4.alloc (.cells (coA cz (.slice none 0 0) (.slice none 0 0)) 34)).setRow w4.heap.size (coA kC (.slice pp 0 pq) (.slice va 0 vc)))) := below_setRow ((Below.refl _ _).alloc (Nat.le_refl _) _) (Nat.le_refl _) _
  have HN : Hid (Box ((w4.alloc (.cells (coA cz (.slice none 0 0) (.slice none 0 0)) 34)).setRow w4.heap.size (coA kC (.slice pp 0 pq) (.slice va 0 vc))) w4.heap.size (coA kC (.slice pp 0 pq) (.slice va 0 vc)) 34) := setRow_heap _ _ _ _ _ _ HZ.out
  rw [show kC.xs.length = 0 from rfl]
  go_wp2_with (first
    | (refine wpList_store_row rfl 34 _ _ rfl w4.heap.size (coA kC (.slice pp 0 pq) (.slice va 0 vc)) rfl rfl 34 (coA cz (.slice none 0 0) (.slice none 0 0)) HZ.out (info_coA kC _ _ zeros_20) rfl (coA_one _ _ _ rfl rfl) ?_
       obtain ⟨w5, hw⟩ : ∃ zz, (w4.alloc (.cells (coA cz (.slice none 0 0) (.slice none 0 0)) 34)).setRow w4.heap.size (coA kC (.slice pp 0 pq) (.slice va 0 vc)) = zz := ⟨_, rfl⟩
       rw [hw] at HS HN ⊢
       obtain ⟨q3, hq⟩ : ∃ q, w4.heap.size = q := ⟨_, rfl⟩
       rw [hq] at HN ⊢
       clear hw HZ
       have HB_w5 : Hid (Below w.heap.size w w5) := HB_w4.out.trans ((HS.out).mono HB_w4.out.size)
       have HW1_w5 : Hid (Box w5 q1 (whoA kW) 31) := HW1_w4.out.below (HS.out)
       have HYR_w5 : Hid (Rw w1.heap.size w5 ya XK.xs) := HYR_w4.out.below (HS.out)
       have HXB_w5 : Hid (Box w5 q2 (chA XK (.slice ya 1 yc) (.slice none 0 0)) 40) := HXB_w4.out.below (HS.out)
       clear HB_w4 HW1_w4 HYR_w4 HXB_w4
       have HCB_w5 : Hid (Box w5 q3 (coA kC (.slice pp 0 pq) (.slice va 0 vc)) 34) := HN.out
       have hd1 := (HCB_w5.out.co zeros_20).msg
       have hd2 := (HCB_w5.out.co zeros_20).exts
       have hd3 := (HXB_w5.out.ch HX20.out).u
       have hd4 := (HXB_w5.out.ch HX20.out).t
       have hd5 := (HXB_w5.out.ch HX20.out).xs
       rw [HK1.out] at hd3
       rw [HK2.out] at hd4
       obtain ⟨b, off, rfl, hkk⟩ := HKEY.out _ HYR_w5.out.row
       clear HS HN hq)
    | refine wpList_load_mid_g rfl 31 _ rfl q3 21 rfl (whoL kW) _ (HCB_w5.out.co zeros_20).author Tryz.underlying31 rfl (info_whoL kW) ?_
    | refine wpList_load_row_g rfl 31 _ rfl q1 rfl 31 (whoA kW) (0, 0) _ HW1_w5.out Tryz.underlying31 rfl (info_whoA _) ?_
    | refine wpList_eql (by rfl) .eql 31 _ _ _ rfl (.agg (whoA kW)) (.agg (whoA kW)) rfl rfl (.bool true) (guarde_who _ _ _ _) (eql_who kW) ?_
    | refine wpList_eql (by rfl) .eql 9 _ _ _ rfl (.string ⟨#[65, 32, 60, 97, 62]⟩) (.string ⟨#[65, 32, 60, 97, 62]⟩) rfl rfl (.bool true) (guard_eq _ _ _ _) (eq_self _) ?_
    | refine wpList_eql (by rfl) .eql 9 _ _ _ rfl (.string ⟨#[103, 105, 116]⟩) (.string ⟨#[103, 105, 116]⟩) rfl rfl (.bool true) (guard_eq _ _ _ _) (eq_self _) ?_
    | refine wpList_eql (by rfl) .eql 9 _ _ _ rfl (.string ⟨#[109]⟩) (.string ⟨#[109]⟩) rfl rfl (.bool true) (guard_eq _ _ _ _) (eq_self _) ?_)
  go_ret
  exact ⟨rfl, HB_w5.out⟩
theorem coAt_alone {W : World} {F : CC} {pp va : Option Addr} (h : RowAt 2 extE W va F.xs) : CoAt W (aloneC F) pp va := ⟨zeros_20, zeros_ok.2, (fun p hp => by cases hp), .inl rfl, h⟩
theorem chAt_own {W : World} {Y : CX} {ta : Option Addr} {tc : Nat} (h1 : Y.n = zeros20) (h2 : Y.fs = []) (h : RowAt 2 extE W ta Y.xs) : ChAt W Y ta tc none 0 := ⟨by rw [h1]; exact zeros_20, by rw [h1]; exact zeros_ok.2, h, .inl (by rw [h2]; rfl), fun _ => ⟨rfl, rfl⟩⟩
theorem chV_nil {Y : CX} (h : Y.fs = []) (a : Option Addr) (c : Nat) : chA Y (.slice a Y.xs.length c) (.slice none 0 0) = chV Y a c none 0 := by unfold chV; rw [h]; rfl
theorem coV_nil {y : CC} (h : y.ps = []) (pa : Option Addr) (pc : Nat) (a : Option Addr) (c : Nat) : coA y (.slice pa 0 pc) (.slice a y.xs.length c) = coV y pa pc a c := by unfold coV; rw [h]; rfl
theorem coAt_bare {W : World} {y : CC} {pp va : Option Addr} (h1 : y.tr = zeros20) (h2 : y.ps = []) (h : RowAt 2 extE W va y.xs) : CoAt W y pp va := ⟨by rw [h1]; exact zeros_20, by rw [h1]; exact zeros_ok.2, (fun p hp => by rw [h2] at hp; cases hp), .inl (by rw [h2]; rfl), h⟩
end Go.Proofs.YtkpiinjhcckhfaaGreatDoor
