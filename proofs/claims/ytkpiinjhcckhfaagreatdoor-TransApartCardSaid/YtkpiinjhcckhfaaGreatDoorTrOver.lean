/- trans.commitOver, trans.changeOver: the walks. -/
import Derived.Test.YtkpiinjhcckhfaaGreatDoorTrSm
/-! trans.commitOver, trans.changeOver: the walks. -/
namespace Go.Proofs.YtkpiinjhcckhfaaGreatDoor
open Go.RowKit Plain Go.ChangeShapes Go.WideShapes Go.ChangeAt Go.Great
set_option linter.unusedVariables false
set_option linter.unusedSimpArgs false
theorem build_whoX (n m z : ByteArray) (t : Int) (W : World) : (Instr.build 31 #[(0, .string n), (1, .string m), (2, .int .i64 t), (3, .string z)]).run Tryz.prog W = .ok (.agg (whoA ⟨n, m, t, z⟩)) W := run_build W _ _ _ (by kernel_rfl)
theorem build_coX (a c : WX) (xs : List (ByteArray × ByteArray)) (xa : Option Addr) (n xc : Nat) (s : ByteArray) (W : World) : (Instr.build 34 #[(2, .agg (whoA a)), (3, .agg (whoA c)), (4, .slice xa n xc), (5, .string s)]).run Tryz.prog W = .ok (.agg (coA ⟨zeros20, [], a, c, xs, s⟩ (.slice none 0 0) (.slice xa n xc))) W := by
  obtain ⟨a1, a2, a3, a4⟩ := a
  obtain ⟨c1, c2, c3, c4⟩ := c
  exact run_build W _ _ _ (by kernel_rfl)
theorem build_chX (u d : ByteArray) (t : Int) (W : World) : (Instr.build 40 #[(1, .string u), (2, .int .i64 t), (6, .string d)]).run Tryz.prog W = .ok (.agg (chA ⟨zeros20, u, t, 0, [], [], d⟩ (.slice none 0 0) (.slice none 0 0))) W := run_build W _ _ _ (by kernel_rfl)
theorem build_cextX (a b : ByteArray) (W : World) : (Instr.build 69 #[(0, .string a), (1, .string b)]).run Tryz.prog W = .ok (.agg (extE (a, b)).toArray) W := run_build W _ _ _ (by kernel_rfl)
theorem map_four5 (a : Act) (x y z u : Operand) (v1 v2 v3 v4 : Value) (h1 : a.eval x = v1) (h2 : a.eval y = v2) (h3 : a.eval z = v3) (h4 : a.eval u = v4) : (#[(2, x), (3, y), (4, z), (5, u)] : Array (Nat × Operand)).map (fun (i, x) => (i, a.eval x)) = #[(2, v1), (3, v2), (4, v3), (5, v4)] := by simp [h1, h2, h3, h4]
theorem map_fourA (a : Act) (x y z u : Operand) (v1 v2 v3 v4 : Value) (h1 : a.eval x = v1) (h2 : a.eval y = v2) (h3 : a.eval z = v3) (h4 : a.eval u = v4) : (#[(0, x), (1, y), (2, z), (3, u)] : Array (Nat × Operand)).map (fun (i, x) => (i, a.eval x)) = #[(0, v1), (1, v2), (2, v3), (3, v4)] := by simp [h1, h2, h3, h4]
theorem map_three126 (a : Act) (x y z : Operand) (u v t : Value) (h1 : a.eval x = u) (h2 : a.eval y = v) (h3 : a.eval z = t) : (#[(1, x), (2, y), (6, z)] : Array (Nat × Operand)).map (fun (i, x) => (i, a.eval x)) = #[(1, u), (2, v), (6, t)] := by simp [h1, h2, h3]
theorem row_one (W : World) (x : ByteArray × ByteArray) (t : TypeId) : Rw W.heap.size (W.alloc (.cells (extE x).toArray t)) (some ⟨W.heap.size, 0, none⟩) [x] := ⟨.inr ⟨W.heap.size, 0, rfl, by simp, one_G W t x⟩, fun b' off e => by simp only [Option.some.injEq, Addr.mk.injEq] at e; omega⟩
theorem zero_whoX (W : World) : (zeroValue 31).run Tryz.prog W = .ok (.agg (whoA wzero)) W := by kernel_rfl
theorem info_whoA (x : WX) : (Tryz.prog.info? 31).map (·.size) = some (whoA x).size := by show _ = some 4; kernel_rfl
theorem info_coZ : (Tryz.prog.info? 34).map (·.size) = some (coA cz (.slice none 0 0) (.slice none 0 0)).size := info_coA _ _ _ cz_20
theorem zeros_20 : zeros20.length = 20 := zeros_ok.1
set_option maxRecDepth 100000 in
set_option maxHeartbeats 32000000 in
theorem commitover_any (x : CX) (xa : Option Addr) (xc : Nat) (fv : Value) (w : World) (h20 : x.n.length = 20) (hx : RowAt 2 extE w xa x.xs) (hs : ChTiny x) (hE : EnvC w) :
    Calls Tryz.prog 37 #[.agg (chA x (.slice xa x.xs.length xc) fv)] w fun e w' => (∃ ya yc, e = .returned (.agg (coA (overX x) (.slice none 0 0) (.slice ya 1 yc))) ∧ Rw w.heap.size w' ya (overX x).xs) ∧ Below w.heap.size w w' := by
  have HE := Lib.hid hE
  have HX := Lib.hid hx
  have HTY := Lib.hid hs
  have H20 := Lib.hid h20
  have HW := Lib.hid (fun W hW hE => words_any x xa xc fv W h20 (hx.below (w' := W) hW) hs hE)
  obtain ⟨n, hN⟩ : ∃ n, x.xs.length = n := ⟨_, rfl⟩
  rw [hN] at HW ⊢
  have hzo := zero_co
  have hzw := zero_whoX
  clear hN hx hs hE h20
  have HB_0 : Hid (Below w.heap.size w ((w.alloc (.cells (chA x (.slice xa n xc) fv) 40)).alloc (.cells (coA cz (.slice none 0 0) (.slice none 0 0)) 34))) := ((Below.refl _ _).alloc (Nat.le_refl _) _).alloc (by simp) _
  have HA_0 : Hid (Box ((w.alloc (.cells (chA x (.slice xa n xc) fv) 40)).alloc (.cells (coA cz (.slice none 0 0) (.slice none 0 0)) 34)) w.heap.size (chA x (.slice xa n xc) fv) 40) := (Box.new _ _ _).alloc _
  have HRS_0 : Hid (Box ((w.alloc (.cells (chA x (.slice xa n xc) fv) 40)).alloc (.cells (coA cz (.slice none 0 0) (.slice none 0 0)) 34)) (w.heap.size + 1) (coA cz (.slice none 0 0) (.slice none 0 0)) 34) := by
    have h := Box.new (w.alloc (.cells (chA x (.slice xa n xc) fv) 40)) (coA cz (.slice none 0 0) (.slice none 0 0)) 34
    rwa [show (w.alloc (.cells (chA x (.slice xa n xc) fv) 40)).heap.size = w.heap.size + 1 by simp] at h
  go_enter Tryz.func37, Tryz.ntmps37
  go_wp2_with ((with_reducible refine (show wpList _ _ _ (⟨some 5, _, _, _, _, _⟩ :: _) _ _ from ?_)); refine Hid.out ?_)
  refine unhid ?_
  obtain ⟨w0, hw0⟩ : ∃ X, (w.alloc (.cells (chA x (.slice xa n xc) fv) 40)).alloc (.cells (coA cz (.slice none 0 0) (.slice none 0 0)) 34) = X := ⟨_, rfl⟩
  rw [hw0] at HB_0 HA_0 HRS_0 ⊢
  obtain ⟨p0, hp0⟩ : ∃ p, w.heap.size = p := ⟨_, rfl⟩
  obtain ⟨p1, hp1⟩ : ∃ p, p0 + 1 = p := ⟨_, rfl⟩
  rw [hp0] at HA_0 HRS_0
  rw [hp1] at HRS_0
  simp only [hp0, hp1]
  have HP : Hid (w.heap.size = p0 ∧ p0 + 1 = p1) := ⟨hp0, hp1⟩
  have HB_w0 : Hid (Below w.heap.size w w0) := HB_0.out
  have HA_w0 := HA_0
  have HRS_w0 := HRS_0
  clear hw0 hp0 hp1 HB_0 HA_0 HRS_0
  have hct := (HA_w0.out.ch H20.out).t
  have HZ : Hid ((w0.alloc (.cells (whoA wzero) 31)).heap[w0.heap.size]? = some (.cells (whoA wzero) 31 (0, 0))) := heap_alloc_new _ _
  have HS : Hid (Below w0.heap.size w0 ((w0.alloc (.cells (whoA wzero) 31)).setRow w0.heap.size (whoA (hgW x.t)))) := below_setRow ((Below.refl _ _).alloc (Nat.le_refl _) _) (Nat.le_refl _) _
  have HN : Hid (Box ((w0.alloc (.cells (whoA wzero) 31)).setRow w0.heap.size (whoA (hgW x.t))) w0.heap.size (whoA (hgW x.t)) 31) := setRow_heap _ _ _ _ _ _ HZ.out
  go_wp2_with (first
    | refine wpList_buildQ rfl 31 _ rfl #[(0, .string ⟨#[104, 103]⟩), (1, .string ⟨#[104, 103]⟩), (2, .int .i64 x.t), (3, .string ⟨#[43, 48, 48, 48, 48]⟩)] (map_fourA _ _ _ _ _ _ _ _ _ rfl rfl rfl rfl) _ (build_whoX _ _ _ _) ?_
    | (refine wpList_store_row rfl 31 _ _ rfl w0.heap.size (whoA (hgW x.t)) rfl rfl 31 (whoA wzero) HZ.out (info_whoA _) rfl (who_one _) ?_
       obtain ⟨w1, hw⟩ : ∃ X, (w0.alloc (.cells (whoA wzero) 31)).setRow w0.heap.size (whoA (hgW x.t)) = X := ⟨_, rfl⟩
       rw [hw] at HS HN ⊢
       obtain ⟨q, hq⟩ : ∃ q, w0.heap.size = q := ⟨_, rfl⟩
       rw [hq] at HN ⊢
       clear hw HZ
       have HQ : Hid (p0 < q ∧ p1 < q ∧ w.heap.size ≤ q) := by rw [← hq]; exact ⟨HA_w0.out.lt, HRS_w0.out.lt, HB_w0.out.size⟩
       have HB_w1 : Hid (Below w.heap.size w w1) := HB_w0.out.trans ((HS.out).mono HB_w0.out.size)
       have HA_w1 : Hid (Box w1 p0 (chA x (.slice xa n xc) fv) 40) := HA_w0.out.below (HS.out)
       have HRS_w1 : Hid (Box w1 p1 (coA cz (.slice none 0 0) (.slice none 0 0)) 34) := HRS_w0.out.below (HS.out)
       clear HB_w0 HA_w0 HRS_w0
       have HX1_w1 : Hid (Box w1 q (whoA (hgW x.t)) 31) := HN.out
       clear HS HN hq)
    | refine wpList_load_row rfl 40 _ rfl p0 rfl 40 (chA x (.slice xa n xc) fv) (0, 0) _ HA_w1.out Tryz.underlying40 rfl (info_chA x _ _ H20.out) ?_)
  clear hct
  refine (HW.out w1 HB_w1.out (HE.out.below HB_w1.out)).mono ?_
  rintro e w2 ⟨rfl, hb⟩
  have HB_w2 : Hid (Below w.heap.size w w2) := HB_w1.out.trans ((hb).mono HB_w1.out.size)
  have HA_w2 : Hid (Box w2 p0 (chA x (.slice xa n xc) fv) 40) := HA_w1.out.below (hb)
  have HRS_w2 : Hid (Box w2 p1 (coA cz (.slice none 0 0) (.slice none 0 0)) 34) := HRS_w1.out.below (hb)
  have HX1_w2 : Hid (Box w2 q (whoA (hgW x.t)) 31) := HX1_w1.out.below (hb)
  clear HB_w1 HA_w1 HRS_w1 HX1_w1
  clear hb
  have HWV : Hid ((overX x).xs = [(⟨#[104, 103]⟩, txt (wordsL x))]) := rfl
  obtain ⟨V, hV⟩ : ∃ V, txt (wordsL x) = V := ⟨_, rfl⟩
  rw [hV] at HWV ⊢
  clear hV
  have hsl := slice_G1 elem_cext (by decide) (by decide) (by decide) extE_len (⟨#[104, 103]⟩, V) (.agg (extE (⟨#[104, 103]⟩, V)).toArray) rfl w2
  have hsx : Below w2.heap.size w2 (w2.alloc (.cells (extE (⟨#[104, 103]⟩, V)).toArray 69)) := (Below.refl _ _).alloc (Nat.le_refl _) _
  have HRW_X : Hid (Rw w2.heap.size (w2.alloc (.cells (extE (⟨#[104, 103]⟩, V)).toArray 69)) (some ⟨w2.heap.size, 0, none⟩) [(⟨#[104, 103]⟩, V)]) := row_one w2 (⟨#[104, 103]⟩, V) 69
  have hlt : p1 < w2.heap.size ∧ w.heap.size ≤ w2.heap.size := ⟨HRS_w2.out.lt, HB_w2.out.size⟩
  have HLT := Lib.hid hlt
  clear hlt
  have HB_X : Hid (Below w.heap.size w (w2.alloc (.cells (extE (⟨#[104, 103]⟩, V)).toArray 69))) := HB_w2.out.trans (hsx.mono HB_w2.out.size)
  have HA_X : Hid (Box (w2.alloc (.cells (extE (⟨#[104, 103]⟩, V)).toArray 69)) p0 (chA x (.slice xa n xc) fv) 40) := HA_w2.out.below hsx
  have HRS_X : Hid (Box (w2.alloc (.cells (extE (⟨#[104, 103]⟩, V)).toArray 69)) p1 (coA cz (.slice none 0 0) (.slice none 0 0)) 34) := HRS_w2.out.below hsx
  have HX1_X : Hid (Box (w2.alloc (.cells (extE (⟨#[104, 103]⟩, V)).toArray 69)) q (whoA (hgW x.t)) 31) := HX1_w2.out.below hsx
  clear hsx HB_w2 HA_w2 HRS_w2 HX1_w2
  go_wp2_with (first
    | refine wpList_buildQ rfl 69 _ rfl #[(0, .string ⟨#[104, 103]⟩), (1, .string V)] (map_two _ _ _ _ _ rfl rfl) _ (build_cextX _ _) ?_
    | (refine wpList_slice rfl 32 1 #[(0, _)] rfl #[(0, .agg (extE (⟨#[104, 103]⟩, V)).toArray)] (map_one _ _ _ rfl) _ _ hsl ?_
       obtain ⟨w3, hw⟩ : ∃ X, (w2.alloc (.cells (extE (⟨#[104, 103]⟩, V)).toArray 69)) = X := ⟨_, rfl⟩
       rw [hw] at HB_X HA_X HRS_X HX1_X HRW_X ⊢
       obtain ⟨g, hg⟩ : ∃ g, w2.heap.size = g := ⟨_, rfl⟩
       rw [hg] at HRW_X HLT ⊢
       have hcd := (HA_X.out.ch H20.out).d
       clear hw hg hsl)
    | refine wpList_load_row rfl 31 _ rfl q rfl 31 (whoA (hgW x.t)) (0, 0) _ HX1_X.out Tryz.underlying31 rfl (info_whoA _) ?_
    | refine wpList_buildQ rfl 34 _ rfl #[(2, .agg (whoA (hgW x.t))), (3, .agg (whoA (hgW x.t))), (4, .slice (some ⟨g, 0, none⟩) 1 1), (5, .string x.d)] (map_four5 _ _ _ _ _ _ _ _ _ rfl rfl rfl rfl) _ (build_coX _ _ [(⟨#[104, 103]⟩, V)] _ _ _ _) ?_
    | refine wpList_store_row rfl 34 _ _ rfl p1 (coA ⟨zeros20, [], hgW x.t, hgW x.t, [(⟨#[104, 103]⟩, V)], x.d⟩ (.slice none 0 0) (.slice (some ⟨g, 0, none⟩) 1 1)) rfl rfl 34 (coA cz (.slice none 0 0) (.slice none 0 0)) HRS_X.out (info_coA ⟨zeros20, [], hgW x.t, hgW x.t, [(⟨#[104, 103]⟩, V)], x.d⟩ _ _ zeros_20) rfl (coA_one _ _ _ rfl rfl) ?_)
  have HFW : Hid (Rw w.heap.size (w3.setRow p1 (coA ⟨zeros20, [], hgW x.t, hgW x.t, [(⟨#[104, 103]⟩, V)], x.d⟩ (.slice none 0 0) (.slice (some ⟨g, 0, none⟩) 1 1))) (some ⟨g, 0, none⟩) (overX x).xs) := by rw [HWV.out]; exact (HRW_X.out.setRow HLT.out.1).lower HLT.out.2
  refine bodyPost_ret (results_cell_row Tryz.results37 _ _ p1 34 (coA ⟨zeros20, [], hgW x.t, hgW x.t, [(⟨#[104, 103]⟩, V)], x.d⟩ (.slice none 0 0) (.slice (some ⟨g, 0, none⟩) 1 1)) (0, 0) _ rfl (Box.setRow HRS_X.out) Tryz.underlying34 rfl (info_coA ⟨zeros20, [], hgW x.t, hgW x.t, [(⟨#[104, 103]⟩, V)], x.d⟩ _ _ zeros_20)) rfl ⟨⟨some ⟨g, 0, none⟩, 1, ?_, HFW.out⟩, below_setRow HB_X.out (by have := HP.out; omega) _⟩
  have hov : overX x = ⟨zeros20, [], hgW x.t, hgW x.t, [(⟨#[104, 103]⟩, V)], x.d⟩ := by have h := HWV.out; unfold overX at h ⊢; simp only [List.cons.injEq, and_true] at h; rw [h]
  rw [hov]
end Go.Proofs.YtkpiinjhcckhfaaGreatDoor
/-! trans.changeOver: the walk. -/
namespace Go.Proofs.YtkpiinjhcckhfaaGreatDoor
open Go.RowKit Plain Go.ChangeShapes Go.WideShapes Go.ChangeAt Go.Great
set_option linter.unusedVariables false
set_option linter.unusedSimpArgs false
set_option maxRecDepth 100000 in
set_option maxHeartbeats 32000000 in
theorem changeover_any (c : CC) (xa : Option Addr) (xc : Nat) (w : World) (hx : RowAt 2 extE w xa c.xs) (hs : CoSmall (aloneC c)) (hr : coR c = true) (hE : EnvC w) :
    Calls Tryz.prog 31 #[.agg (coA ⟨zeros20, [], c.a, c.c, c.xs, c.m⟩ (.slice none 0 0) (.slice xa c.xs.length xc))] w fun e w' => (∃ ya yc, e = .returned (.agg (chA (overC c) (.slice ya 1 yc) (.slice none 0 0))) ∧ Rw w.heap.size w' ya (overC c).xs) ∧ Below w.heap.size w w' := by
  have HE := Lib.hid hE
  have HX := Lib.hid hx
  have HTY := Lib.hid hs
  have HR : Hid (coR ⟨zeros20, [], c.a, c.c, c.xs, ⟨#[]⟩⟩ = true) := hr
  have HSM : Hid (CoSmall ⟨zeros20, [], c.a, c.c, c.xs, ⟨#[]⟩⟩) := ⟨hs.1, hs.2.1, hs.2.2.1, hs.2.2.2.1, hs.2.2.2.2.1, by show (⟨#[]⟩ : ByteArray).size ≤ _; decide⟩
  have HPR := Lib.hid (fun W (hW : Below w.heap.size w W) => coprint_any ⟨zeros20, [], c.a, c.c, c.xs, ⟨#[]⟩⟩ none 0 xa xc W ⟨zeros_20, zeros_ok.2, (fun p hp => by cases hp), .inl rfl, hx.below hW⟩ HSM.out (HE.out.below hW))
  have HPC : Hid (printC ⟨zeros20, [], c.a, c.c, c.xs, ⟨#[]⟩⟩ = printC { aloneC c with m := ⟨#[]⟩ }) := rfl
  obtain ⟨PL, hPL⟩ : ∃ l, printC ⟨zeros20, [], c.a, c.c, c.xs, ⟨#[]⟩⟩ = l := ⟨_, rfl⟩
  have HPL : Hid (∀ e w', CoPrint e w' ⟨zeros20, [], c.a, c.c, c.xs, ⟨#[]⟩⟩ → ∃ a cap, e = .returned (.tuple #[.slice a PL.length cap, .int .i64 0]) ∧ Bytes w' a PL.length (numsOf (txt PL))) := fun e w' h => by
    rcases h with ⟨-, a, cap, h1, -, h2⟩ | ⟨h1, -⟩
    · rw [hPL] at h1 h2; exact ⟨a, cap, h1, h2⟩
    · rw [HR.out] at h1; cases h1
  have HOV : Hid (overC c = ⟨zeros20, txt (c.a.n.data.toList ++ [32, 60] ++ c.a.m.data.toList ++ [62]), c.a.t, 0, [(⟨#[103, 105, 116]⟩, txt PL)], [], c.m⟩) := by show _ = _; unfold overC; rw [← hPL]; rfl
  obtain ⟨T1, hT1⟩ : ∃ T, c.a.n.data.toList ++ [32, 60] = T := ⟨_, rfl⟩
  obtain ⟨T2, hT2⟩ : ∃ T, T1 ++ c.a.m.data.toList = T := ⟨_, rfl⟩
  obtain ⟨T3, hT3⟩ : ∃ T, T2 ++ [62] = T := ⟨_, rfl⟩
  rw [hT1, hT2, hT3] at HOV
  have z1 : c.a.n.size ≤ 40000 := hs.1.1
  have z2 : c.a.m.size ≤ 40000 := hs.1.2.1
  have l1 : T1.length ≤ 40002 := by rw [← hT1, List.length_append, ← Lib.size_eq]; simp only [List.length_cons, List.length_nil]; omega
  have l2 : T2.length ≤ 80002 := by rw [← hT2, List.length_append, ← Lib.size_eq]; omega
  have HA1 : Hid (∀ W, (binOp .add 9 (.string c.a.n) (.string ⟨#[32, 60]⟩)).run Tryz.prog W = .ok (.string (txt T1)) W) := fun W => add_txt _ _ _ hT1 (by show _ + 2 ≤ _; omega) W
  have HA2 : Hid (∀ W, (binOp .add 9 (.string (txt T1)) (.string c.a.m)).run Tryz.prog W = .ok (.string (txt T2)) W) := fun W => add_txt _ _ _ (by rw [txt_list]; exact hT2) (by rw [txt_size]; omega) W
  have HA3 : Hid (∀ W, (binOp .add 9 (.string (txt T2)) (.string ⟨#[62]⟩)).run Tryz.prog W = .ok (.string (txt T3)) W) := fun W => add_txt _ _ _ (by rw [txt_list]; exact hT3) (by rw [txt_size]; show _ + 1 ≤ _; omega) W
  clear hT1 hT2 hT3 z1 z2 l1 l2
  obtain ⟨n, hN⟩ : ∃ n, c.xs.length = n := ⟨_, rfl⟩
  have HPR2 : Hid (∀ W, Below w.heap.size w W → Calls Tryz.prog 29 #[.agg (coA ⟨zeros20, [], c.a, c.c, c.xs, ⟨#[]⟩⟩ (.slice none 0 0) (.slice xa n xc))] W fun e w' => CoPrint e w' ⟨zeros20, [], c.a, c.c, c.xs, ⟨#[]⟩⟩ ∧ Below W.heap.size W w') := fun W hW => by
    have h := HPR.out W hW
    unfold coV at h
    rwa [show (⟨zeros20, [], c.a, c.c, c.xs, ⟨#[]⟩⟩ : CC).xs.length = n from hN] at h
  rw [hN]
  have hzc := zero_ch
  clear hN hPL hx hs hE hr HPR
  have HB_0 : Hid (Below w.heap.size w ((w.alloc (.cells (coA ⟨zeros20, [], c.a, c.c, c.xs, c.m⟩ (.slice none 0 0) (.slice xa n xc)) 34)).alloc (.cells (chA czero (.slice none 0 0) (.slice none 0 0)) 40))) := ((Below.refl _ _).alloc (Nat.le_refl _) _).alloc (by simp) _
  have HA_0 : Hid (Box ((w.alloc (.cells (coA ⟨zeros20, [], c.a, c.c, c.xs, c.m⟩ (.slice none 0 0) (.slice xa n xc)) 34)).alloc (.cells (chA czero (.slice none 0 0) (.slice none 0 0)) 40)) w.heap.size (coA ⟨zeros20, [], c.a, c.c, c.xs, c.m⟩ (.slice none 0 0) (.slice xa n xc)) 34) := (Box.new _ _ _).alloc _
  have HRS_0 : Hid (Box ((w.alloc (.cells (coA ⟨zeros20, [], c.a, c.c, c.xs, c.m⟩ (.slice none 0 0) (.slice xa n xc)) 34)).alloc (.cells (chA czero (.slice none 0 0) (.slice none 0 0)) 40)) (w.heap.size + 1) (chA czero (.slice none 0 0) (.slice none 0 0)) 40) := by
    have h := Box.new (w.alloc (.cells (coA ⟨zeros20, [], c.a, c.c, c.xs, c.m⟩ (.slice none 0 0) (.slice xa n xc)) 34)) (chA czero (.slice none 0 0) (.slice none 0 0)) 40
    rwa [show (w.alloc (.cells (coA ⟨zeros20, [], c.a, c.c, c.xs, c.m⟩ (.slice none 0 0) (.slice xa n xc)) 34)).heap.size = w.heap.size + 1 by simp] at h
  go_enter Tryz.func31, Tryz.ntmps31
  go_wp2_with ((with_reducible refine (show wpList _ _ _ (⟨some 6, _, _, _, _, _⟩ :: _) _ _ from ?_)); refine Hid.out ?_)
  refine unhid ?_
  obtain ⟨w0, hw0⟩ : ∃ X, (w.alloc (.cells (coA ⟨zeros20, [], c.a, c.c, c.xs, c.m⟩ (.slice none 0 0) (.slice xa n xc)) 34)).alloc (.cells (chA czero (.slice none 0 0) (.slice none 0 0)) 40) = X := ⟨_, rfl⟩
  rw [hw0] at HB_0 HA_0 HRS_0 ⊢
  obtain ⟨p0, hp0⟩ : ∃ p, w.heap.size = p := ⟨_, rfl⟩
  obtain ⟨p1, hp1⟩ : ∃ p, p0 + 1 = p := ⟨_, rfl⟩
  rw [hp0] at HA_0 HRS_0
  rw [hp1] at HRS_0
  simp only [hp0, hp1]
  have HP : Hid (w.heap.size = p0 ∧ p0 + 1 = p1) := ⟨hp0, hp1⟩
  have HB_w0 : Hid (Below w.heap.size w w0) := HB_0.out
  have HA_w0 := HA_0
  have HRS_w0 := HRS_0
  clear hw0 hp0 hp1 HB_0 HA_0 HRS_0
  have hc1 : w0.cell? ⟨p0, 21, none⟩ = some (.string c.a.n) := (HA_w0.out.co zeros_20).cell 1 rfl
  have hc2 : w0.cell? ⟨p0, 22, none⟩ = some (.string c.a.m) := (HA_w0.out.co zeros_20).cell 2 rfl
  have hc3 : w0.cell? ⟨p0, 23, none⟩ = some (.int .i64 c.a.t) := (HA_w0.out.co zeros_20).cell 3 rfl
  have hc4 : w0.cell? ⟨p0, 30, none⟩ = some (.string c.m) := (HA_w0.out.co zeros_20).cell 10 rfl
  have HZ : Hid ((w0.alloc (.cells (chA czero (.slice none 0 0) (.slice none 0 0)) 40)).heap[w0.heap.size]? = some (.cells (chA czero (.slice none 0 0) (.slice none 0 0)) 40 (0, 0))) := heap_alloc_new _ _
  have HS : Hid (Below w0.heap.size w0 ((w0.alloc (.cells (chA czero (.slice none 0 0) (.slice none 0 0)) 40)).setRow w0.heap.size (chA ⟨zeros20, txt T3, c.a.t, 0, [], [], c.m⟩ (.slice none 0 0) (.slice none 0 0)))) := below_setRow ((Below.refl _ _).alloc (Nat.le_refl _) _) (Nat.le_refl _) _
  have HN : Hid (Box ((w0.alloc (.cells (chA czero (.slice none 0 0) (.slice none 0 0)) 40)).setRow w0.heap.size (chA ⟨zeros20, txt T3, c.a.t, 0, [], [], c.m⟩ (.slice none 0 0) (.slice none 0 0))) w0.heap.size (chA ⟨zeros20, txt T3, c.a.t, 0, [], [], c.m⟩ (.slice none 0 0) (.slice none 0 0)) 40) := setRow_heap _ _ _ _ _ _ HZ.out
  go_wp2_with (first
    | refine wpList_eql (by rfl) .add 9 _ _ _ rfl (.string c.a.n) (.string ⟨#[32, 60]⟩) rfl rfl (.string (txt T1)) (guard_addn _ _ _ _) HA1.out ?_
    | refine wpList_eql (by rfl) .add 9 _ _ _ rfl (.string (txt T1)) (.string c.a.m) rfl rfl (.string (txt T2)) (guard_addn _ _ _ _) HA2.out ?_
    | refine wpList_eql (by rfl) .add 9 _ _ _ rfl (.string (txt T2)) (.string ⟨#[62]⟩) rfl rfl (.string (txt T3)) (guard_addn _ _ _ _) HA3.out ?_
    | refine wpList_buildQ rfl 40 _ rfl #[(1, .string (txt T3)), (2, .int .i64 c.a.t), (6, .string c.m)] (map_three126 _ _ _ _ _ _ _ rfl rfl rfl) _ (build_chX _ _ _) ?_
    | (refine wpList_store_row rfl 40 _ _ rfl w0.heap.size (chA ⟨zeros20, txt T3, c.a.t, 0, [], [], c.m⟩ (.slice none 0 0) (.slice none 0 0)) rfl rfl 40 (chA czero (.slice none 0 0) (.slice none 0 0)) HZ.out (info_chA ⟨zeros20, txt T3, c.a.t, 0, [], [], c.m⟩ _ _ zeros_20) rfl (chA_one _ _ _ rfl rfl) ?_
       obtain ⟨w1, hw⟩ : ∃ X, (w0.alloc (.cells (chA czero (.slice none 0 0) (.slice none 0 0)) 40)).setRow w0.heap.size (chA ⟨zeros20, txt T3, c.a.t, 0, [], [], c.m⟩ (.slice none 0 0) (.slice none 0 0)) = X := ⟨_, rfl⟩
       rw [hw] at HS HN ⊢
       obtain ⟨q, hq⟩ : ∃ q, w0.heap.size = q := ⟨_, rfl⟩
       rw [hq] at HN ⊢
       clear hw HZ
       have HQ : Hid (p0 < q ∧ p1 < q ∧ w.heap.size ≤ q) := by rw [← hq]; exact ⟨HA_w0.out.lt, HRS_w0.out.lt, HB_w0.out.size⟩
       have HB_w1 : Hid (Below w.heap.size w w1) := HB_w0.out.trans ((HS.out).mono HB_w0.out.size)
       have HA_w1 : Hid (Box w1 p0 (coA ⟨zeros20, [], c.a, c.c, c.xs, c.m⟩ (.slice none 0 0) (.slice xa n xc)) 34) := HA_w0.out.below (HS.out)
       have HRS_w1 : Hid (Box w1 p1 (chA czero (.slice none 0 0) (.slice none 0 0)) 40) := HRS_w0.out.below (HS.out)
       clear HB_w0 HA_w0 HRS_w0
       have HX_w1 : Hid (Box w1 q (chA ⟨zeros20, txt T3, c.a.t, 0, [], [], c.m⟩ (.slice none 0 0) (.slice none 0 0)) 40) := HN.out
       have hcm : w1.cell? ⟨p0, 30, none⟩ = some (.string c.m) := (HA_w1.out.co zeros_20).cell 10 rfl
       have hfo := frozen_of_row w1 p0 30 _ _ HA_w1.out
       have HA_X : Hid (Box (w1.setCell ⟨p0, 30, none⟩ (.string ⟨#[]⟩)) p0 (coA ⟨zeros20, [], c.a, c.c, c.xs, ⟨#[]⟩⟩ (.slice none 0 0) (.slice xa n xc)) 34) := HA_w1.out.setCell (coA_set ⟨zeros20, [], c.a, c.c, c.xs, c.m⟩ _ _ zeros_20 10 _)
       have HRS_X : Hid (Box (w1.setCell ⟨p0, 30, none⟩ (.string ⟨#[]⟩)) p1 (chA czero (.slice none 0 0) (.slice none 0 0)) 40) := HRS_w1.out.setCell_ne (by have := HP.out.2; omega)
       have HX_X : Hid (Box (w1.setCell ⟨p0, 30, none⟩ (.string ⟨#[]⟩)) q (chA ⟨zeros20, txt T3, c.a.t, 0, [], [], c.m⟩ (.slice none 0 0) (.slice none 0 0)) 40) := HX_w1.out.setCell_ne (by have := HQ.out.1; omega)
       have HB_X : Hid (Below w.heap.size w (w1.setCell ⟨p0, 30, none⟩ (.string ⟨#[]⟩))) := HB_w1.out.setCell (p := ⟨p0, 30, none⟩) (Nat.le_of_eq HP.out.1) _
       clear HA_w1 HRS_w1 HX_w1 HB_w1
       clear HS HN hq)
    | refine wpList_load_row rfl 34 _ rfl p0 rfl 34 (coA ⟨zeros20, [], c.a, c.c, c.xs, ⟨#[]⟩⟩ (.slice none 0 0) (.slice xa n xc)) (0, 0) _ HA_X.out Tryz.underlying34 rfl (info_coA ⟨zeros20, [], c.a, c.c, c.xs, ⟨#[]⟩⟩ _ _ zeros_20) ?_)
  clear hc1 hc2 hc3 hc4 hcm hfo
  obtain ⟨w2, hw⟩ : ∃ X, (w1.setCell ⟨p0, 30, none⟩ (.string ⟨#[]⟩)) = X := ⟨_, rfl⟩
  rw [hw] at HA_X HRS_X HX_X HB_X ⊢
  have HA_w2 := HA_X
  have HRS_w2 := HRS_X
  have HX_w2 := HX_X
  have HB_w2 := HB_X
  clear hw HA_X HRS_X HX_X HB_X
  refine (HPR2.out w2 HB_w2.out).mono ?_
  rintro e w3 ⟨hpr, hb⟩
  have HB_w3 : Hid (Below w.heap.size w w3) := HB_w2.out.trans ((hb).mono HB_w2.out.size)
  have HRS_w3 : Hid (Box w3 p1 (chA czero (.slice none 0 0) (.slice none 0 0)) 40) := HRS_w2.out.below (hb)
  have HX_w3 : Hid (Box w3 q (chA ⟨zeros20, txt T3, c.a.t, 0, [], [], c.m⟩ (.slice none 0 0) (.slice none 0 0)) 40) := HX_w2.out.below (hb)
  clear HB_w2 HRS_w2 HX_w2
  clear hb
  obtain ⟨a, cap, rfl, hby⟩ := HPL.out _ _ hpr
  clear hpr
  obtain ⟨pn, hpn⟩ : ∃ n, PL.length = n := ⟨_, rfl⟩
  rw [hpn] at hby ⊢
  have ht1 := text_run w3 a pn cap _ hby
  rw [str_nums] at ht1
  clear hpn hby
  obtain ⟨V, hV⟩ : ∃ V, txt PL = V := ⟨_, rfl⟩
  rw [hV] at HOV ht1
  clear hV
  have hsl := slice_G1 elem_ext (by decide) (by decide) (by decide) extE_len (⟨#[103, 105, 116]⟩, V) (.agg (extE (⟨#[103, 105, 116]⟩, V)).toArray) rfl w3
  have hsx : Below w3.heap.size w3 (w3.alloc (.cells (extE (⟨#[103, 105, 116]⟩, V)).toArray 79)) := (Below.refl _ _).alloc (Nat.le_refl _) _
  have HRW_X : Hid (Rw w3.heap.size (w3.alloc (.cells (extE (⟨#[103, 105, 116]⟩, V)).toArray 79)) (some ⟨w3.heap.size, 0, none⟩) [(⟨#[103, 105, 116]⟩, V)]) := row_one w3 (⟨#[103, 105, 116]⟩, V) 79
  have HLT : Hid (p1 < w3.heap.size ∧ q < w3.heap.size ∧ w.heap.size ≤ w3.heap.size) := ⟨HRS_w3.out.lt, HX_w3.out.lt, HB_w3.out.size⟩
  have HB_X : Hid (Below w.heap.size w (w3.alloc (.cells (extE (⟨#[103, 105, 116]⟩, V)).toArray 79))) := HB_w3.out.trans (hsx.mono HB_w3.out.size)
  have HRS_X : Hid (Box (w3.alloc (.cells (extE (⟨#[103, 105, 116]⟩, V)).toArray 79)) p1 (chA czero (.slice none 0 0) (.slice none 0 0)) 40) := HRS_w3.out.below hsx
  have HX_X : Hid (Box (w3.alloc (.cells (extE (⟨#[103, 105, 116]⟩, V)).toArray 79)) q (chA ⟨zeros20, txt T3, c.a.t, 0, [], [], c.m⟩ (.slice none 0 0) (.slice none 0 0)) 40) := HX_w3.out.below hsx
  clear hsx HB_w3 HRS_w3 HX_w3
  go_wp2_with (first
    | refine wpList_buildQ rfl 79 _ rfl #[(0, .string ⟨#[103, 105, 116]⟩), (1, .string V)] (map_two _ _ _ _ _ rfl rfl) _ (build_ext _ _) ?_
    | (refine wpList_slice rfl 37 1 #[(0, _)] rfl #[(0, .agg (extE (⟨#[103, 105, 116]⟩, V)).toArray)] (map_one _ _ _ rfl) _ _ hsl ?_
       obtain ⟨w4, hw⟩ : ∃ X, (w3.alloc (.cells (extE (⟨#[103, 105, 116]⟩, V)).toArray 79)) = X := ⟨_, rfl⟩
       rw [hw] at HB_X HRS_X HX_X HRW_X ⊢
       obtain ⟨g, hg⟩ : ∃ g, w3.heap.size = g := ⟨_, rfl⟩
       rw [hg] at HRW_X HLT ⊢
       clear hw hg hsl
       have hcx := (HX_X.out.ch zeros_20).xs
       have hfo := frozen_of_row w4 q 23 _ _ HX_X.out
       have HB_Y : Hid (Below w.heap.size w (w4.setCell ⟨q, 23, none⟩ (.slice (some ⟨g, 0, none⟩) 1 1))) := HB_X.out.setCell (p := ⟨q, 23, none⟩) HQ.out.2.2 _
       have HRS_Y : Hid (Box (w4.setCell ⟨q, 23, none⟩ (.slice (some ⟨g, 0, none⟩) 1 1)) p1 (chA czero (.slice none 0 0) (.slice none 0 0)) 40) := HRS_X.out.setCell_ne (by have := HQ.out.2.1; omega)
       have HX_Y : Hid (Box (w4.setCell ⟨q, 23, none⟩ (.slice (some ⟨g, 0, none⟩) 1 1)) q (chA ⟨zeros20, txt T3, c.a.t, 0, [(⟨#[103, 105, 116]⟩, V)], [], c.m⟩ (.slice (some ⟨g, 0, none⟩) 1 1) (.slice none 0 0)) 40) := HX_X.out.setCell (chA_set ⟨zeros20, txt T3, c.a.t, 0, [], [], c.m⟩ _ _ zeros_20 3 _ _ rfl)
       have HRW_Y : Hid (Rw g (w4.setCell ⟨q, 23, none⟩ (.slice (some ⟨g, 0, none⟩) 1 1)) (some ⟨g, 0, none⟩) [(⟨#[103, 105, 116]⟩, V)]) := HRW_X.out.setCell HLT.out.2.1)
    | refine wpList_load_row rfl 40 _ rfl q rfl 40 (chA ⟨zeros20, txt T3, c.a.t, 0, [(⟨#[103, 105, 116]⟩, V)], [], c.m⟩ (.slice (some ⟨g, 0, none⟩) 1 1) (.slice none 0 0)) (0, 0) _ HX_Y.out Tryz.underlying40 rfl (info_chA ⟨zeros20, txt T3, c.a.t, 0, [(⟨#[103, 105, 116]⟩, V)], [], c.m⟩ _ _ zeros_20) ?_
    | refine wpList_store_row rfl 40 _ _ rfl p1 (chA ⟨zeros20, txt T3, c.a.t, 0, [(⟨#[103, 105, 116]⟩, V)], [], c.m⟩ (.slice (some ⟨g, 0, none⟩) 1 1) (.slice none 0 0)) rfl rfl 40 (chA czero (.slice none 0 0) (.slice none 0 0)) HRS_Y.out (info_chA ⟨zeros20, txt T3, c.a.t, 0, [(⟨#[103, 105, 116]⟩, V)], [], c.m⟩ _ _ zeros_20) rfl (chA_one _ _ _ rfl rfl) ?_)
  have HFW : Hid (Rw w.heap.size ((w4.setCell ⟨q, 23, none⟩ (.slice (some ⟨g, 0, none⟩) 1 1)).setRow p1 (chA ⟨zeros20, txt T3, c.a.t, 0, [(⟨#[103, 105, 116]⟩, V)], [], c.m⟩ (.slice (some ⟨g, 0, none⟩) 1 1) (.slice none 0 0))) (some ⟨g, 0, none⟩) (overC c).xs) := by rw [HOV.out]; exact (HRW_Y.out.setRow HLT.out.1).lower HLT.out.2.2
  refine bodyPost_ret (results_cell_row Tryz.results31 _ _ p1 40 (chA ⟨zeros20, txt T3, c.a.t, 0, [(⟨#[103, 105, 116]⟩, V)], [], c.m⟩ (.slice (some ⟨g, 0, none⟩) 1 1) (.slice none 0 0)) (0, 0) _ rfl (Box.setRow HRS_Y.out) Tryz.underlying40 rfl (info_chA ⟨zeros20, txt T3, c.a.t, 0, [(⟨#[103, 105, 116]⟩, V)], [], c.m⟩ _ _ zeros_20)) rfl ⟨⟨some ⟨g, 0, none⟩, 1, ?_, HFW.out⟩, below_setRow HB_Y.out (by have := HP.out; omega) _⟩
  rw [HOV.out]
end Go.Proofs.YtkpiinjhcckhfaaGreatDoor
