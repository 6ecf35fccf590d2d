/- The document's commit of the program's: the walk. -/
import Derived.Test.YtkpiinjhcckhfaaGreatDoorCoWhoIn
import Derived.Test.YtkpiinjhcckhfaaGreatDoorChOf
import Derived.Test.YtkpiinjhcckhfaaGreatDoorChKey
namespace Go.Proofs.YtkpiinjhcckhfaaGreatDoor
open Go.RowKit Plain Go.ChangeShapes Go.WideShapes Go.ChangeAt Go.Great
set_option linter.unusedVariables false
set_option linter.unusedSimpArgs false
theorem elem_a20 : Elem 23 22 20 20 := elem_of (z := .agg (V8 zeros20)) Tryz.underlying23 (by kernel_rfl) rfl
theorem elem_rcext : Elem 26 65 2 32 := elem_of (z := .agg #[.string ⟨#[]⟩, .string ⟨#[]⟩]) Tryz.underlying26 (by kernel_rfl) rfl
theorem info_rco (c : CC) (pv xv : Value) (h : c.tr.length = 20) : (Tryz.prog.info? 28).map (·.size) = some (coL c pv xv).length := by rw [coL_len c pv xv h]; kernel_rfl
theorem info_rcoA (c : CC) (pv xv : Value) (h : c.tr.length = 20) : (Tryz.prog.info? 28).map (·.size) = some (coA c pv xv).size := by rw [coA_size c pv xv h]; kernel_rfl
theorem zero_rco (W : World) : (zeroValue 28).run Tryz.prog W = .ok (.agg (coA cz (.slice none 0 0) (.slice none 0 0))) W := by kernel_rfl
theorem build_rcext (a b : ByteArray) (W : World) : (Instr.build 65 #[(0, .string a), (1, .string b)]).run Tryz.prog W = .ok (.agg (extE (a, b)).toArray) W := run_build W _ _ _ (by kernel_rfl)
theorem map_four' (a : Act) (x y z u : Operand) (v1 v2 v3 v4 : Value) (h1 : a.eval x = v1) (h2 : a.eval y = v2) (h3 : a.eval z = v3) (h4 : a.eval u = v4) : (#[(0, x), (2, y), (3, z), (5, u)] : Array (Nat × Operand)).map (fun (i, x) => (i, a.eval x)) = #[(0, v1), (2, v2), (3, v3), (5, v4)] := by simp [h1, h2, h3, h4]
theorem built_rco (a0 a1 a2 a3 a4 a5 a6 a7 a8 a9 a10 a11 a12 a13 a14 a15 a16 a17 a18 a19 : Int) (n m z n2 m2 z2 s : ByteArray) (t t2 : Int) : Tryz.prog.built 28 [(0, .agg #[.int .u8 a0, .int .u8 a1, .int .u8 a2, .int .u8 a3, .int .u8 a4, .int .u8 a5, .int .u8 a6, .int .u8 a7, .int .u8 a8, .int .u8 a9, .int .u8 a10, .int .u8 a11, .int .u8 a12, .int .u8 a13, .int .u8 a14, .int .u8 a15, .int .u8 a16, .int .u8 a17, .int .u8 a18, .int .u8 a19]), (2, .agg #[.string n, .string m, .int .i64 t, .string z]), (3, .agg #[.string n2, .string m2, .int .i64 t2, .string z2]), (5, .string s)] = some (coA ⟨[a0, a1, a2, a3, a4, a5, a6, a7, a8, a9, a10, a11, a12, a13, a14, a15, a16, a17, a18, a19], [], ⟨n, m, t, z⟩, ⟨n2, m2, t2, z2⟩, [], s⟩ (.slice none 0 0) (.slice none 0 0)) := by kernel_rfl
theorem build_rco (c : CC) (h : c.tr.length = 20) (W : World) : (Instr.build 28 #[(0, .agg (V8 c.tr)), (2, .agg (whoA c.a)), (3, .agg (whoA c.c)), (5, .string c.m)]).run Tryz.prog W = .ok (.agg (coA c (.slice none 0 0) (.slice none 0 0))) W := by
  obtain ⟨tr, ps, ⟨n, m, t, z⟩, ⟨n2, m2, t2, z2⟩, xs, s⟩ := c
  obtain ⟨a0, a1, a2, a3, a4, a5, a6, a7, a8, a9, a10, a11, a12, a13, a14, a15, a16, a17, a18, a19, rfl⟩ := list20 h
  exact run_build W _ _ _ (built_rco a0 a1 a2 a3 a4 a5 a6 a7 a8 a9 a10 a11 a12 a13 a14 a15 a16 a17 a18 a19 n m z n2 m2 z2 s t t2)
def ViaN (A : Nat → Act) (R : Nat → World → Prop) : Exit → Act → World → Prop
  | .normal, a, w => ∃ j, a = A j ∧ R j w
  | _, _, _ => False
theorem wp_via_n {P : Program} {c : Code} {Q : Exit → Act → World → Prop} {a : Act} {w : World} {R : Nat → World → Prop} (A : Nat → Act) (h1 : c.wp P (ViaN A R) a w) (h2 : ∀ j W, R j W → Q .normal (A j) W) : c.wp P Q a w := by
  refine wp_mono h1 fun e a' w' h => ?_
  cases e with
  | normal =>
    obtain ⟨j, ha, hr⟩ := h
    subst ha
    exact h2 j w' hr
  | _ => exact h.elim
/-- A commit that is told. -/
def CoTold (e : Ending) (w' : World) (c : CC) : Prop := ∃ pa pc xa xc, e = .returned (.agg (coV c pa pc xa xc)) ∧ CoAt w' c pa xa
set_option maxRecDepth 100000 in
set_option maxHeartbeats 32000000 in
theorem coof_any (c : CC) (pa : Option Addr) (pc : Nat) (xa : Option Addr) (xc : Nat) (w : World) (hat : CoAt w c pa xa) (hn : c.ps.length ≤ 100000) (hm : c.xs.length ≤ 100000) :
    Calls Tryz.prog 10 #[.agg (coV c pa pc xa xc)] w fun e w' => CoTold e w' c ∧ Below w.heap.size w w' := by
  obtain ⟨n, hN⟩ : ∃ n, c.ps.length = n := ⟨_, rfl⟩
  obtain ⟨m, hM⟩ : ∃ n, c.xs.length = n := ⟨_, rfl⟩
  have HN := Lib.hid hN
  have HM := Lib.hid hM
  have HNB : Hid (n ≤ 100000) := by rw [← hN]; exact hn
  have HMB : Hid (m ≤ 100000) := by rw [← hM]; exact hm
  have HAP := Lib.hid hat.pars
  have HAX := Lib.hid hat.exts
  have HIDS := Lib.hid hat.ids
  have HBYT := Lib.hid hat.byt
  have H20 := Lib.hid hat.n20
  unfold coV
  rw [hN, hM]
  have hzr := zero_rco
  have HB0 : Hid (Below w.heap.size w ((w.alloc (.cells (coA c (.slice pa n pc) (.slice xa m xc)) 34)).alloc (.cells (coA cz (.slice none 0 0) (.slice none 0 0)) 28))) := ((Below.refl _ _).alloc (Nat.le_refl _) _).alloc (by simp) _
  have HP0 : Hid (((w.alloc (.cells (coA c (.slice pa n pc) (.slice xa m xc)) 34)).alloc (.cells (coA cz (.slice none 0 0) (.slice none 0 0)) 28)).heap[w.heap.size]? = some (.cells (coA c (.slice pa n pc) (.slice xa m xc)) 34 (0, 0))) := (Below.heap_alloc _ _ _ (by simp)).trans (heap_alloc_new _ _)
  have HR0 : Hid (((w.alloc (.cells (coA c (.slice pa n pc) (.slice xa m xc)) 34)).alloc (.cells (coA cz (.slice none 0 0) (.slice none 0 0)) 28)).heap[w.heap.size + 1]? = some (.cells (coA cz (.slice none 0 0) (.slice none 0 0)) 28 (0, 0))) := by
    have h1 := heap_alloc_new (w.alloc (.cells (coA c (.slice pa n pc) (.slice xa m xc)) 34)) (.cells (coA cz (.slice none 0 0) (.slice none 0 0)) 28)
    rw [show (w.alloc (.cells (coA c (.slice pa n pc) (.slice xa m xc)) 34)).heap.size = w.heap.size + 1 by simp] at h1
    exact h1
  clear hN hM hat hn hm
  go_enter Tryz.func10, Tryz.ntmps10
  go_wp2_with fail
  obtain ⟨w0, hw0⟩ : ∃ W, (w.alloc (.cells (coA c (.slice pa n pc) (.slice xa m xc)) 34)).alloc (.cells (coA cz (.slice none 0 0) (.slice none 0 0)) 28) = W := ⟨_, rfl⟩
  rw [hw0] at HB0 HP0 HR0 ⊢
  clear hw0
  obtain ⟨p0, hp0⟩ : ∃ b, w.heap.size = b := ⟨_, rfl⟩
  have HPE : Hid (w.heap.size = p0) := hp0
  rw [hp0] at HP0 HR0 ⊢
  obtain ⟨rb, hrb⟩ : ∃ b, p0 + 1 = b := ⟨_, rfl⟩
  rw [hrb] at HR0 ⊢
  have HNE0 : Hid (p0 ≠ rb ∧ p0 < w0.heap.size ∧ rb < w0.heap.size ∧ w.heap.size ≤ p0 ∧ w.heap.size ≤ rb) := by have h1 := (Array.getElem?_eq_some_iff.1 HP0.out).1; have h2 := (Array.getElem?_eq_some_iff.1 HR0.out).1; show _ ∧ _; omega
  clear hp0 hrb
  have HW0P : Hid (∀ W, Below w0.heap.size w0 W → W.heap[p0]? = some (.cells (coA c (.slice pa n pc) (.slice xa m xc)) 34 (0, 0))) := fun W hW => (hW.block p0 HNE0.out.2.1).trans HP0.out
  have HRW0 : Hid (CoRow w0 p0 c (.slice pa n pc) (.slice xa m xc)) := CoRow.of HP0.out H20.out
  have HRWD : Hid (CoRow w0.drew p0 c (.slice pa n pc) (.slice xa m xc)) := HRW0.out.below HNE0.out.2.1 (Below.refl _ _).drew
  have HVD : Hid (Below w0.heap.size w0 w0.drew) := (Below.refl _ _).drew
  apply wp_via_n (R := fun ob W => w0.heap.size ≤ ob ∧ W.heap[ob]? = some (.cells (coA c (.slice none 0 0) (.slice none 0 0)) 28 (0, 0)) ∧ Below w0.heap.size w0 W)
  · skip
    refine wp_region_noPanic ?_
    refine wp_region_held_drew (S := fun W => CoRow W p0 c (.slice pa n pc) (.slice xa m xc)) (by kernel_rfl) ?_ (fun hHeld => ?_)
    · exact HRWD.out
    refine tkV 0 (v := ?_) (hw := ?_) (h := ?_)
    rotate_left
    · intro W hSW
      go_simp
      try with_reducible rfl
    try simp only [Act.put, List.setIfInBounds_toArray, List.set_cons_zero, List.set_cons_succ]
    refine tkY 1 (hy := (yieldsIf_load_mid (by rfl) 29 _ rfl p0 0 rfl (U8 c.tr) (.array 20 5) (fun W hSW => hSW.tree) Tryz.underlying29 rfl (id_info8 c.tr H20.out))) (h := ?_)
    try simp only [Act.put, List.setIfInBounds_toArray, List.set_cons_zero, List.set_cons_succ]
    refine tkV 2 (v := ?_) (hw := ?_) (h := ?_)
    rotate_left
    · intro W hSW
      go_simp
      try with_reducible rfl
    try simp only [Act.put, List.setIfInBounds_toArray, List.set_cons_zero, List.set_cons_succ]
    refine tkY 3 (hy := (yieldsIf_load_mid (by rfl) 31 _ rfl p0 21 rfl (whoL c.a) _ (fun W hSW => hSW.author) Tryz.underlying31 rfl (info_whoL c.a))) (h := ?_)
    try simp only [Act.put, List.setIfInBounds_toArray, List.set_cons_zero, List.set_cons_succ]
    refine tkV 5 (v := ?_) (hw := ?_) (h := ?_)
    rotate_left
    · intro W hSW
      go_simp
      try with_reducible rfl
    try simp only [Act.put, List.setIfInBounds_toArray, List.set_cons_zero, List.set_cons_succ]
    refine tkY 6 (hy := (yieldsIf_load_mid (by rfl) 31 _ rfl p0 25 rfl (whoL c.c) _ (fun W hSW => hSW.committer) Tryz.underlying31 rfl (info_whoL c.c))) (h := ?_)
    try simp only [Act.put, List.setIfInBounds_toArray, List.set_cons_zero, List.set_cons_succ]
    refine tkV 8 (v := ?_) (hw := ?_) (h := ?_)
    rotate_left
    · intro W hSW
      go_simp
      try with_reducible rfl
    try simp only [Act.put, List.setIfInBounds_toArray, List.set_cons_zero, List.set_cons_succ]
    refine tkY 9 (hy := (yieldsIf_load_str (by rfl) 9 _ rfl p0 30 rfl c.m (fun W hSW => hSW.msg) Tryz.underlying9)) (h := ?_)
    try simp only [Act.put, List.setIfInBounds_toArray, List.set_cons_zero, List.set_cons_succ]
    try rw [show (whoL c.a).toArray = whoA c.a from rfl, show (whoL c.c).toArray = whoA c.c from rfl]
    refine wpAnyH_ready (rs := [4, 11]) (by kernel_rfl) (by simp) ?_
    refine AllReadyH.cons (by simp only [List.getElem?_toArray, List.getElem?_cons_succ, List.getElem?_cons_zero]; rfl) (fun K hK => ?_) (AllReadyH.cons (by simp only [List.getElem?_toArray, List.getElem?_cons_succ, List.getElem?_cons_zero]; rfl) (fun K hK => ?_) AllReadyH.nil)
    · go_simp
      refine (whoof_any c.a _).mono ?_
      rintro e v1 ⟨rfl, hb⟩
      have hv : Below w0.heap.size w0 v1 := ((Below.refl _ _).drew).trans hb
      have HV1 := Lib.hid hv
      clear hb hv
      go_wp2_with fail
      refine hK.out _ _ (HRW0.out.below HNE0.out.2.1 HV1.out) (fun hHeld2 => ?_)
      clear hK K hHeld
      have hHeld := hHeld2
      clear hHeld2
      try simp only [Act.put, List.setIfInBounds_toArray, List.set_cons_zero, List.set_cons_succ]
      refine wpAnyH_ready (rs := [7, 11]) (by kernel_rfl) (by simp) ?_
      refine AllReadyH.cons (by simp only [List.getElem?_toArray, List.getElem?_cons_succ, List.getElem?_cons_zero]; rfl) (fun K hK => ?_) (AllReadyH.cons (by simp only [List.getElem?_toArray, List.getElem?_cons_succ, List.getElem?_cons_zero]; rfl) (fun K hK => ?_) AllReadyH.nil)
      · go_simp
        refine (whoof_any c.c _).mono ?_
        rintro e v2 ⟨rfl, hb⟩
        have hv : Below w0.heap.size w0 v2 := (HV1.out).trans (hb.mono (HV1.out).size)
        have HV2 := Lib.hid hv
        try have HGC := Lib.hid ((hb.block _ (Array.getElem?_eq_some_iff.1 HGB.out).1).trans HGB.out)
        clear hb hv
        go_wp2_with fail
        refine hK.out _ _ (HRW0.out.below HNE0.out.2.1 HV2.out) (fun hHeld2 => ?_)
        clear hK K hHeld
        have hHeld := hHeld2
        clear hHeld2
        try simp only [Act.put, List.setIfInBounds_toArray, List.set_cons_zero, List.set_cons_succ]
        refine tkY 10 (hy := (yieldsIf_build (by rfl) _ _ rfl #[(0, .agg (V8 c.tr)), (2, .agg (whoA c.a)), (3, .agg (whoA c.c)), (5, .string c.m)] (map_four' _ _ _ _ _ _ _ _ _ rfl rfl rfl rfl) (.agg (coA c (.slice none 0 0) (.slice none 0 0))) (build_rco c H20.out))) (h := ?_)
        try simp only [Act.put, List.setIfInBounds_toArray, List.set_cons_zero, List.set_cons_succ]
        refine wpAnyH_ready (rs := [11]) (by kernel_rfl) (by simp) ?_
        refine AllReadyH.cons (by simp only [List.getElem?_toArray, List.getElem?_cons_succ, List.getElem?_cons_zero]; rfl) (fun K hK => ?_) AllReadyH.nil
        go_simp
        have HGA : Hid ((v2.alloc (.cells (coA cz (.slice none 0 0) (.slice none 0 0)) 28)).heap[v2.heap.size]? = some (.cells (coA cz (.slice none 0 0) (.slice none 0 0)) 28 (0, 0))) := heap_alloc_new _ _
        have HVA : Hid (Below w0.heap.size w0 (v2.alloc (.cells (coA cz (.slice none 0 0) (.slice none 0 0)) 28))) := HV2.out.alloc HV2.out.size _
        refine hK.out _ _ (HRW0.out.below HNE0.out.2.1 HVA.out) (fun hHeld2 => ?_)
        clear hK K hHeld
        have hHeld := hHeld2
        clear hHeld2
        try simp only [Act.put, List.setIfInBounds_toArray, List.set_cons_zero, List.set_cons_succ]
        have HRS : Hid (CoRow ((v2.alloc (.cells (coA cz (.slice none 0 0) (.slice none 0 0)) 28)).setRow v2.heap.size (coA c (.slice none 0 0) (.slice none 0 0))) p0 c (.slice pa n pc) (.slice xa m xc)) := CoRow.of ((setRow_other _ _ _ _ (by have h1 := HV2.out.size; have h2 := HNE0.out.2.1; show p0 ≠ v2.heap.size; exact Nat.ne_of_lt (Nat.lt_of_lt_of_le h2 h1))).trans ((HW0P.out _ HVA.out))) H20.out
        have HSTW : Hid (Below w0.heap.size w0 ((v2.alloc (.cells (coA cz (.slice none 0 0) (.slice none 0 0)) 28)).setRow v2.heap.size (coA c (.slice none 0 0) (.slice none 0 0)))) := below_setRow HVA.out HV2.out.size _
        have HSTR : Hid (((v2.alloc (.cells (coA cz (.slice none 0 0) (.slice none 0 0)) 28)).setRow v2.heap.size (coA c (.slice none 0 0) (.slice none 0 0))).heap[v2.heap.size]? = some (.cells (coA c (.slice none 0 0) (.slice none 0 0)) 28 (0, 0))) := setRow_heap _ _ _ _ _ _ HGA.out
        have HSTL : Hid (w0.heap.size ≤ v2.heap.size) := HV2.out.size
        refine wpAnyH_ready (rs := [12]) (by kernel_rfl) (by simp) ?_
        refine AllReadyH.cons (by simp only [List.getElem?_toArray, List.getElem?_cons_succ, List.getElem?_cons_zero]; rfl) (fun K hK => ?_) AllReadyH.nil
        refine step_store_row (by rfl) 28 _ _ rfl (v2.heap.size) (coA c (.slice none 0 0) (.slice none 0 0)) rfl rfl 28 (coA cz (.slice none 0 0) (.slice none 0 0)) HGA.out (info_rcoA c _ _ H20.out) (by rw [coA_size _ _ _ cz_20, coA_size c _ _ H20.out]) (coA_one _ _ _ rfl rfl) ?_
        refine hK.out _ _ (HRS.out) (fun hHeld2 => ?_)
        clear hK K hHeld
        have hHeld := hHeld2
        clear hHeld2
        try simp only [Act.put, List.setIfInBounds_toArray, List.set_cons_zero, List.set_cons_succ]
        refine wpAnyH_done (by kernel_rfl) ?_ _
        refine NoPanic.normal ?_
        obtain ⟨ob, hob⟩ : ∃ x, v2.heap.size = x := ⟨_, rfl⟩
        rw [hob] at HSTL HSTR HSTW
        rw [hob]
        exact ⟨ob, rfl, HSTL.out, HSTR.out, HSTW.out⟩
      · go_simp
        have HGA : Hid ((v1.alloc (.cells (coA cz (.slice none 0 0) (.slice none 0 0)) 28)).heap[v1.heap.size]? = some (.cells (coA cz (.slice none 0 0) (.slice none 0 0)) 28 (0, 0))) := heap_alloc_new _ _
        have HVA : Hid (Below w0.heap.size w0 (v1.alloc (.cells (coA cz (.slice none 0 0) (.slice none 0 0)) 28))) := HV1.out.alloc HV1.out.size _
        refine hK.out _ _ (HRW0.out.below HNE0.out.2.1 HVA.out) (fun hHeld2 => ?_)
        clear hK K hHeld
        have hHeld := hHeld2
        clear hHeld2
        try simp only [Act.put, List.setIfInBounds_toArray, List.set_cons_zero, List.set_cons_succ]
        refine wpAnyH_ready (rs := [7]) (by kernel_rfl) (by simp) ?_
        refine AllReadyH.cons (by simp only [List.getElem?_toArray, List.getElem?_cons_succ, List.getElem?_cons_zero]; rfl) (fun K hK => ?_) AllReadyH.nil
        go_simp
        refine (whoof_any c.c _).mono ?_
        rintro e v2 ⟨rfl, hb⟩
        have hv : Below w0.heap.size w0 v2 := (HVA.out).trans (hb.mono (HVA.out).size)
        have HV2 := Lib.hid hv
        have HGB := Lib.hid ((hb.block _ (Array.getElem?_eq_some_iff.1 HGA.out).1).trans HGA.out)
        clear hb hv
        go_wp2_with fail
        refine hK.out _ _ (HRW0.out.below HNE0.out.2.1 HV2.out) (fun hHeld2 => ?_)
        clear hK K hHeld
        have hHeld := hHeld2
        clear hHeld2
        try simp only [Act.put, List.setIfInBounds_toArray, List.set_cons_zero, List.set_cons_succ]
        refine tkY 10 (hy := (yieldsIf_build (by rfl) _ _ rfl #[(0, .agg (V8 c.tr)), (2, .agg (whoA c.a)), (3, .agg (whoA c.c)), (5, .string c.m)] (map_four' _ _ _ _ _ _ _ _ _ rfl rfl rfl rfl) (.agg (coA c (.slice none 0 0) (.slice none 0 0))) (build_rco c H20.out))) (h := ?_)
        try simp only [Act.put, List.setIfInBounds_toArray, List.set_cons_zero, List.set_cons_succ]
        have HRS : Hid (CoRow ((v2).setRow v1.heap.size (coA c (.slice none 0 0) (.slice none 0 0))) p0 c (.slice pa n pc) (.slice xa m xc)) := CoRow.of ((setRow_other _ _ _ _ (by have h1 := HV1.out.size; have h2 := HNE0.out.2.1; show p0 ≠ v1.heap.size; exact Nat.ne_of_lt (Nat.lt_of_lt_of_le h2 h1))).trans ((HW0P.out _ HV2.out))) H20.out
        have HSTW : Hid (Below w0.heap.size w0 ((v2).setRow v1.heap.size (coA c (.slice none 0 0) (.slice none 0 0)))) := below_setRow HV2.out HV1.out.size _
        have HSTR : Hid (((v2).setRow v1.heap.size (coA c (.slice none 0 0) (.slice none 0 0))).heap[v1.heap.size]? = some (.cells (coA c (.slice none 0 0) (.slice none 0 0)) 28 (0, 0))) := setRow_heap _ _ _ _ _ _ HGB.out
        have HSTL : Hid (w0.heap.size ≤ v1.heap.size) := HV1.out.size
        refine wpAnyH_ready (rs := [12]) (by kernel_rfl) (by simp) ?_
        refine AllReadyH.cons (by simp only [List.getElem?_toArray, List.getElem?_cons_succ, List.getElem?_cons_zero]; rfl) (fun K hK => ?_) AllReadyH.nil
        refine step_store_row (by rfl) 28 _ _ rfl (v1.heap.size) (coA c (.slice none 0 0) (.slice none 0 0)) rfl rfl 28 (coA cz (.slice none 0 0) (.slice none 0 0)) HGB.out (info_rcoA c _ _ H20.out) (by rw [coA_size _ _ _ cz_20, coA_size c _ _ H20.out]) (coA_one _ _ _ rfl rfl) ?_
        refine hK.out _ _ (HRS.out) (fun hHeld2 => ?_)
        clear hK K hHeld
        have hHeld := hHeld2
        clear hHeld2
        try simp only [Act.put, List.setIfInBounds_toArray, List.set_cons_zero, List.set_cons_succ]
        refine wpAnyH_done (by kernel_rfl) ?_ _
        refine NoPanic.normal ?_
        obtain ⟨ob, hob⟩ : ∃ x, v1.heap.size = x := ⟨_, rfl⟩
        rw [hob] at HSTL HSTR HSTW
        rw [hob]
        exact ⟨ob, rfl, HSTL.out, HSTR.out, HSTW.out⟩
    · go_simp
      try rw [show (w0.alloc (.cells (coA cz (.slice none 0 0) (.slice none 0 0)) 28)).drew = w0.drew.alloc (.cells (coA cz (.slice none 0 0) (.slice none 0 0)) 28) from rfl]
      have HGA : Hid ((w0.drew.alloc (.cells (coA cz (.slice none 0 0) (.slice none 0 0)) 28)).heap[w0.heap.size]? = some (.cells (coA cz (.slice none 0 0) (.slice none 0 0)) 28 (0, 0))) := heap_alloc_new _ _
      have HVA : Hid (Below w0.heap.size w0 (w0.drew.alloc (.cells (coA cz (.slice none 0 0) (.slice none 0 0)) 28))) := HVD.out.alloc HVD.out.size _
      refine hK.out _ _ (HRW0.out.below HNE0.out.2.1 HVA.out) (fun hHeld2 => ?_)
      clear hK K hHeld
      have hHeld := hHeld2
      clear hHeld2
      try simp only [Act.put, List.setIfInBounds_toArray, List.set_cons_zero, List.set_cons_succ]
      refine wpAnyH_ready (rs := [4]) (by kernel_rfl) (by simp) ?_
      refine AllReadyH.cons (by simp only [List.getElem?_toArray, List.getElem?_cons_succ, List.getElem?_cons_zero]; rfl) (fun K hK => ?_) AllReadyH.nil
      go_simp
      try rw [show (w0.alloc (.cells (coA cz (.slice none 0 0) (.slice none 0 0)) 28)).drew = w0.drew.alloc (.cells (coA cz (.slice none 0 0) (.slice none 0 0)) 28) from rfl]
      refine (whoof_any c.a _).mono ?_
      rintro e v1 ⟨rfl, hb⟩
      have hv : Below w0.heap.size w0 v1 := (HVA.out).trans (hb.mono (HVA.out).size)
      have HV1 := Lib.hid hv
      have HGB := Lib.hid ((hb.block _ (Array.getElem?_eq_some_iff.1 HGA.out).1).trans HGA.out)
      clear hb hv
      go_wp2_with fail
      refine hK.out _ _ (HRW0.out.below HNE0.out.2.1 HV1.out) (fun hHeld2 => ?_)
      clear hK K hHeld
      have hHeld := hHeld2
      clear hHeld2
      try simp only [Act.put, List.setIfInBounds_toArray, List.set_cons_zero, List.set_cons_succ]
      refine wpAnyH_ready (rs := [7]) (by kernel_rfl) (by simp) ?_
      refine AllReadyH.cons (by simp only [List.getElem?_toArray, List.getElem?_cons_succ, List.getElem?_cons_zero]; rfl) (fun K hK => ?_) AllReadyH.nil
      go_simp
      refine (whoof_any c.c _).mono ?_
      rintro e v2 ⟨rfl, hb⟩
      have hv : Below w0.heap.size w0 v2 := (HV1.out).trans (hb.mono (HV1.out).size)
      have HV2 := Lib.hid hv
      try have HGC := Lib.hid ((hb.block _ (Array.getElem?_eq_some_iff.1 HGB.out).1).trans HGB.out)
      clear hb hv
      go_wp2_with fail
      refine hK.out _ _ (HRW0.out.below HNE0.out.2.1 HV2.out) (fun hHeld2 => ?_)
      clear hK K hHeld
      have hHeld := hHeld2
      clear hHeld2
      try simp only [Act.put, List.setIfInBounds_toArray, List.set_cons_zero, List.set_cons_succ]
      refine tkY 10 (hy := (yieldsIf_build (by rfl) _ _ rfl #[(0, .agg (V8 c.tr)), (2, .agg (whoA c.a)), (3, .agg (whoA c.c)), (5, .string c.m)] (map_four' _ _ _ _ _ _ _ _ _ rfl rfl rfl rfl) (.agg (coA c (.slice none 0 0) (.slice none 0 0))) (build_rco c H20.out))) (h := ?_)
      try simp only [Act.put, List.setIfInBounds_toArray, List.set_cons_zero, List.set_cons_succ]
      have HRS : Hid (CoRow ((v2).setRow w0.heap.size (coA c (.slice none 0 0) (.slice none 0 0))) p0 c (.slice pa n pc) (.slice xa m xc)) := CoRow.of ((setRow_other _ _ _ _ (by have h1 := HVD.out.size; have h2 := HNE0.out.2.1; show p0 ≠ w0.heap.size; exact Nat.ne_of_lt (Nat.lt_of_lt_of_le h2 h1))).trans ((HW0P.out _ HV2.out))) H20.out
      have HSTW : Hid (Below w0.heap.size w0 ((v2).setRow w0.heap.size (coA c (.slice none 0 0) (.slice none 0 0)))) := below_setRow HV2.out HVD.out.size _
      have HSTR : Hid (((v2).setRow w0.heap.size (coA c (.slice none 0 0) (.slice none 0 0))).heap[w0.heap.size]? = some (.cells (coA c (.slice none 0 0) (.slice none 0 0)) 28 (0, 0))) := setRow_heap _ _ _ _ _ _ HGC.out
      have HSTL : Hid (w0.heap.size ≤ w0.heap.size) := HVD.out.size
      refine wpAnyH_ready (rs := [12]) (by kernel_rfl) (by simp) ?_
      refine AllReadyH.cons (by simp only [List.getElem?_toArray, List.getElem?_cons_succ, List.getElem?_cons_zero]; rfl) (fun K hK => ?_) AllReadyH.nil
      refine step_store_row (by rfl) 28 _ _ rfl (w0.heap.size) (coA c (.slice none 0 0) (.slice none 0 0)) rfl rfl 28 (coA cz (.slice none 0 0) (.slice none 0 0)) HGC.out (info_rcoA c _ _ H20.out) (by rw [coA_size _ _ _ cz_20, coA_size c _ _ H20.out]) (coA_one _ _ _ rfl rfl) ?_
      refine hK.out _ _ (HRS.out) (fun hHeld2 => ?_)
      clear hK K hHeld
      have hHeld := hHeld2
      clear hHeld2
      try simp only [Act.put, List.setIfInBounds_toArray, List.set_cons_zero, List.set_cons_succ]
      refine wpAnyH_done (by kernel_rfl) ?_ _
      refine NoPanic.normal ?_
      obtain ⟨ob, hob⟩ : ∃ x, w0.heap.size = x := ⟨_, rfl⟩
      rw [hob] at HSTL HSTR HSTW
      rw [hob]
      exact ⟨ob, rfl, HSTL.out, HSTR.out, HSTW.out⟩
  rintro ob w1 ⟨hob, hg1, hb1⟩
  have HG2 := Lib.hid hg1
  have HP2 : Hid (w1.heap[p0]? = some (.cells (coA c (.slice pa n pc) (.slice xa m xc)) 34 (0, 0))) := HW0P.out w1 hb1
  have HR2 : Hid (w1.heap[rb]? = some (.cells (coA cz (.slice none 0 0) (.slice none 0 0)) 28 (0, 0))) := (hb1.block rb HNE0.out.2.2.1).trans HR0.out
  have HB2 : Hid (Below w.heap.size w w1) := HB0.out.trans (hb1.mono HB0.out.size)
  have HN1 : Hid (p0 ≠ ob ∧ rb ≠ ob ∧ p0 ≠ rb ∧ w.heap.size ≤ p0 ∧ w.heap.size ≤ rb ∧ w.heap.size ≤ ob) := by have := HNE0.out; have := HB0.out.size; show _ ∧ _; omega
  clear hob hg1 hb1 HRW0 HRWD HVD HW0P hzr HP0 HR0 HB0 HNE0
  have HPL : Hid (p0 < w1.heap.size) := (Array.getElem?_eq_some_iff.1 HP2.out).1
  have HOB : Hid (ob < w1.heap.size) := (Array.getElem?_eq_some_iff.1 HG2.out).1
  have HRL : Hid (rb < w1.heap.size) := (Array.getElem?_eq_some_iff.1 HR2.out).1
  have HPO : Hid (p0 ≠ ob) := HN1.out.1
  have HRW := Lib.hid (CoRow.of HP2.out H20.out)
  have HP20B : Hid (w1.cell? ⟨p0, 20, none⟩ = some (.slice pa n pc)) := HRW.out.pars
  have HPC : Hid (∀ W, FrR ob w1 W → W.cell? ⟨p0, 20, none⟩ = some (.slice pa n pc)) := fun W hW => (hW.cell HPL.out HPO.out 20).trans HP20B.out
  go_wp2_with fail
  go_loopw [4] (fun i wr => ∃ (k : Nat) (oa : Option Addr) (oc : Nat), k ≤ n ∧ i = .int .i64 (k : Int) ∧ OwnG 20 idE 22 wr w1.heap.size (.slice oa k oc) (c.ps.take k) ∧ wr.heap[ob]? = some (.cells (coA c (.slice oa k oc) (.slice none 0 0)) 28 (0, 0)) ∧ FrR ob w1 wr) (fun i _ => n - (intOf i).toNat)
  case atStart => exact ⟨0, none, 0, Nat.zero_le _, rfl, by rw [List.take_zero]; exact OwnG.nil _ _ _, HG2.out, FrR.refl _ _⟩
  case round =>
    rename World => wr
    obtain ⟨k, oa, oc, hk, rfl, ho, hr, hf⟩ := hrel
    have HO := Lib.hid ho
    have HR := Lib.hid hr
    have HF := Lib.hid hf
    have WK := Lib.hid (next_int k (by have := HNB.out; omega))
    have HQ3 := Lib.hid (HPC.out wr HF.out)
    clear ho hr hf HG2
    by_cases hkn : k < n
    · have hki : (k : Int) < (n : Int) := by omega
      have HKN := Lib.hid hkn
      rcases HAP.out with h0 | ⟨b, off, rfl, hbl, hc⟩
      · rw [HN.out] at h0; omega
      obtain ⟨p, hp⟩ : ∃ p, c.ps[k]? = some p := ⟨_, List.getElem?_eq_getElem (by rw [HN.out]; exact hkn)⟩
      have HP20 : Hid (p.length = 20) := (HIDS.out p (List.mem_of_getElem? hp)).1
      have HIE : Hid ((idE p).toArray = V8 p) := by show _ = _; rw [idE_of HP20.out]; rfl
      have HXR : Hid (∀ W, FrR ob w1 W → W.rangeAt b (off + k * 20) (U8 p)) := fun W hW => by
        have := hW.range (by have := HB2.out.size; omega) (by have := HN1.out; omega) (range_below (hc k p hp) HB2.out hbl)
        rwa [idE_of HP20.out] at this
      have HQ4 := Lib.hid (HXR.out _ HF.out)
      have HT : Hid (c.ps.take (k + 1) = c.ps.take k ++ [p]) := take_snoc hp
      have HTL : Hid ((c.ps.take k).length = k) := by show _ = _; rw [List.length_take, HN.out]; omega
      clear hp hbl hc hkn hk
      have hp20 := HQ3.out
      go_wp2_with fail
      have HF6 : Hid (FrR ob w1 (wr.drew.alloc (.cells (idE p).toArray 22))) := HF.out.drew.trans (FrR.of ((Below.refl _ _).alloc (Nat.le_refl _) _))
      have HO6 : Hid (OwnG 20 idE 22 (wr.drew.alloc (.cells (idE p).toArray 22)) w1.heap.size (.slice oa k oc) (c.ps.take k)) := HO.out.below ((Below.refl _ _).drew.alloc (Nat.le_refl _) _)
      have HR6 : Hid ((wr.drew.alloc (.cells (idE p).toArray 22)).heap[ob]? = some (.cells (coA c (.slice oa k oc) (.slice none 0 0)) 28 (0, 0))) := (Below.heap_alloc _ _ _ (Array.getElem?_eq_some_iff.1 HR.out).1).trans HR.out
      have HQ1 := Lib.hid (HPC.out _ HF6.out)
      have HQ2 := Lib.hid (HXR.out _ HF6.out)
      refine wp_region_noPanic ?_
      refine wp_region_held_drew (S := fun W => W.cell? ⟨p0, 20, none⟩ = some (.slice (some ⟨b, off, none⟩) n pc) ∧ W.rangeAt b (off + k * 20) (U8 p)) (by kernel_rfl) ?_ (fun hHeld => ?_)
      · exact ⟨HQ3.out, HQ4.out⟩
      refine tkV 0 (v := ?_) (hw := ?_) (h := ?_)
      rotate_left
      · intro W hSW
        go_simp
        try with_reducible rfl
      try simp only [Act.put, List.setIfInBounds_toArray, List.set_cons_zero, List.set_cons_succ]
      refine tkV 2 (v := ?_) (hw := ?_) (h := ?_)
      rotate_left
      · intro W hSW
        go_simp
        try with_reducible rfl
      try simp only [Act.put, List.setIfInBounds_toArray, List.set_cons_zero, List.set_cons_succ]
      refine tkY 3 (hy := (yieldsIf_load_sl (by rfl) 30 _ rfl p0 20 rfl (.slice (some ⟨b, off, none⟩) n pc) (fun W hSW => hSW.1) Tryz.underlying30)) (h := ?_)
      try simp only [Act.put, List.setIfInBounds_toArray, List.set_cons_zero, List.set_cons_succ]
      refine tkV 4 (v := ?_) (hw := ?_) (h := ?_)
      rotate_left
      · intro W hSW
        go_simp
        try with_reducible rfl
      try simp only [Act.put, List.setIfInBounds_toArray, List.set_cons_zero, List.set_cons_succ]
      refine tkV 5 (v := ?_) (hw := ?_) (h := ?_)
      rotate_left
      · intro W hSW
        go_simp
        try with_reducible rfl
      try simp only [Act.put, List.setIfInBounds_toArray, List.set_cons_zero, List.set_cons_succ]
      refine tkY 6 (hy := (yieldsIf_load_mid (by rfl) 29 _ rfl b (off + k * 20) rfl (U8 p) (.array 20 5) (fun W hSW => hSW.2) Tryz.underlying29 rfl (id_info8 p HP20.out))) (h := ?_)
      try simp only [Act.put, List.setIfInBounds_toArray, List.set_cons_zero, List.set_cons_succ]
      refine wpAnyH_ready (rs := [1, 7]) (by kernel_rfl) (by simp) ?_
      refine AllReadyH.cons (by simp only [List.getElem?_toArray, List.getElem?_cons_succ, List.getElem?_cons_zero]; rfl) (fun K hK => ?_) (AllReadyH.cons (by simp only [List.getElem?_toArray, List.getElem?_cons_succ, List.getElem?_cons_zero]; rfl) (fun K hK => ?_) AllReadyH.nil)
      · have hcod := (CoRow.of (w := wr.drew) (by exact HR.out) H20.out).pars
        go_simp
        refine hK.out _ _ (⟨HQ3.out, HQ4.out⟩) (fun hHeld2 => ?_)
        clear hK K hHeld
        have hHeld := hHeld2
        clear hHeld2
        try simp only [Act.put, List.setIfInBounds_toArray, List.set_cons_zero, List.set_cons_succ]
        clear hcod
        refine wpAnyH_ready (rs := [7]) (by kernel_rfl) (by simp) ?_
        refine AllReadyH.cons (by simp only [List.getElem?_toArray, List.getElem?_cons_succ, List.getElem?_cons_zero]; rfl) (fun K hK => ?_) AllReadyH.nil
        refine step_slice (by rfl) _ _ _ rfl #[(0, .agg (V8 p))] (map_one _ _ _ rfl) _ _ (slice_G1 elem_a20 (by decide) (by decide) (by decide) idE_len p (.agg (V8 p)) (by rw [HIE.out]; rfl) _) ?_
        refine hK.out _ _ (⟨HQ1.out, HQ2.out⟩) (fun hHeld2 => ?_)
        clear hK K hHeld
        have hHeld := hHeld2
        clear hHeld2
        try simp only [Act.put, List.setIfInBounds_toArray, List.set_cons_zero, List.set_cons_succ]
        refine wpAnyH_ready (rs := [8]) (by kernel_rfl) (by simp) ?_
        refine AllReadyH.cons (by simp only [List.getElem?_toArray, List.getElem?_cons_succ, List.getElem?_cons_zero]; rfl) (fun K hK => ?_) AllReadyH.nil
        refine step_append_G elem_a20 idE_len (by decide) (by decide) idE_one (by rfl) _ _ rfl w1.heap.size (.slice oa k oc) (c.ps.take k) k HTL.out rfl HO6.out wr.heap.size 0 1 1 [p] rfl (by decide) rfl (one_G wr.drew _ p) (k + 1) (c.ps.take (k + 1)) rfl HT.out.symm (by have := HKN.out; have := HNB.out; omega) HF6.out.size ?_
        rintro g2 gc2 w7 ho7 hg7 hgg hgl
        have HO7 := Lib.hid ho7
        have HF7 : Hid (FrR ob w1 w7) := HF6.out.grown hg7 (fun g hg => (HO6.out.lt hg).1)
        have HR7 : Hid (w7.heap[ob]? = some (.cells (coA c (.slice oa k oc) (.slice none 0 0)) 28 (0, 0))) := (hg7.block ob (Array.getElem?_eq_some_iff.1 HR6.out).1 (fun e => by have h1 := (HO6.out.lt e.symm).1; have h2 := HOB.out; omega)).trans HR6.out
        have HP7 : Hid (w7.cell? ⟨p0, 20, none⟩ = some (.slice (some ⟨b, off, none⟩) n pc)) := HPC.out w7 HF7.out
        have HX7 : Hid (w7.rangeAt b (off + k * 20) (U8 p)) := HXR.out w7 HF7.out
        clear ho7 hg7 hgg hgl
        refine hK.out _ _ (⟨HP7.out, HX7.out⟩) (fun hHeld2 => ?_)
        clear hK K hHeld
        have hHeld := hHeld2
        clear hHeld2
        try simp only [Act.put, List.setIfInBounds_toArray, List.set_cons_zero, List.set_cons_succ]
        refine tkV 9 (v := ?_) (hw := ?_) (h := ?_)
        rotate_left
        · intro W hSW
          go_simp
          try with_reducible rfl
        try simp only [Act.put, List.setIfInBounds_toArray, List.set_cons_zero, List.set_cons_succ]
        have hco7 := (CoRow.of HR7.out H20.out).pars
        have hfo7 := frozen_of_row w7 ob 20 _ _ HR7.out
        refine wpAnyH_ready (rs := [10]) (by kernel_rfl) (by simp) ?_
        refine AllReadyH.cons (by simp only [List.getElem?_toArray, List.getElem?_cons_succ, List.getElem?_cons_zero]; rfl) (fun K hK => ?_) AllReadyH.nil
        go_simp
        have HR8 : Hid ((w7.setCell ⟨ob, 20, none⟩ (.slice (some ⟨g2, 0, none⟩) (k + 1) gc2)).heap[ob]? = some (.cells (coA c (.slice (some ⟨g2, 0, none⟩) (k + 1) gc2) (.slice none 0 0)) 28 (0, 0))) := (heap_setCell_same w7 ob 20 _ _ _ HR7.out).trans (by rw [coA_set _ _ _ H20.out 0]; rfl)
        have HF8 : Hid (FrR ob w1 (w7.setCell ⟨ob, 20, none⟩ (.slice (some ⟨g2, 0, none⟩) (k + 1) gc2))) := HF7.out.trans (FrR.setCell ob 20 _ _)
        have HO8 : Hid (OwnG 20 idE 22 (w7.setCell ⟨ob, 20, none⟩ (.slice (some ⟨g2, 0, none⟩) (k + 1) gc2)) w1.heap.size (.slice (some ⟨g2, 0, none⟩) (k + 1) gc2) (c.ps.take (k + 1))) := HO7.out.move fun g hg _ => heap_setCell_ne w7 ⟨ob, 20, none⟩ _ g (by have := HOB.out; show g ≠ ob; omega)
        refine hK.out _ _ (⟨HPC.out _ HF8.out, HXR.out _ HF8.out⟩) (fun hHeld2 => ?_)
        clear hK K hHeld
        have hHeld := hHeld2
        clear hHeld2
        try simp only [Act.put, List.setIfInBounds_toArray, List.set_cons_zero, List.set_cons_succ]
        refine wpAnyH_done (by kernel_rfl) ?_ _
        refine NoPanic.normal ?_
        clear hHeld hco7 hfo7
        go_wp2_with fail
        try rw [WK.out ((k : Int) + 1) rfl]
        exact ⟨⟨k + 1, some ⟨g2, 0, none⟩, gc2, HKN.out, rfl, HO8.out, HR8.out, HF8.out⟩, by simp [intOf]; have := HKN.out; omega⟩
      · refine step_slice (by rfl) _ _ _ rfl #[(0, .agg (V8 p))] (map_one _ _ _ rfl) _ _ (slice_G1 elem_a20 (by decide) (by decide) (by decide) idE_len p (.agg (V8 p)) (by rw [HIE.out]; rfl) _) ?_
        refine hK.out _ _ (⟨HQ1.out, HQ2.out⟩) (fun hHeld2 => ?_)
        clear hK K hHeld
        have hHeld := hHeld2
        clear hHeld2
        try simp only [Act.put, List.setIfInBounds_toArray, List.set_cons_zero, List.set_cons_succ]
        refine wpAnyH_ready (rs := [1]) (by kernel_rfl) (by simp) ?_
        refine AllReadyH.cons (by simp only [List.getElem?_toArray, List.getElem?_cons_succ, List.getElem?_cons_zero]; rfl) (fun K hK => ?_) AllReadyH.nil
        have hcod := (CoRow.of (w := wr.alloc (.cells (idE p).toArray 22)) (by exact HR6.out) H20.out).pars
        go_simp
        try rw [show (wr.alloc (.cells (idE p).toArray 22)).drew = wr.drew.alloc (.cells (idE p).toArray 22) from rfl]
        refine hK.out _ _ (⟨HQ1.out, HQ2.out⟩) (fun hHeld2 => ?_)
        clear hK K hHeld
        have hHeld := hHeld2
        clear hHeld2
        try simp only [Act.put, List.setIfInBounds_toArray, List.set_cons_zero, List.set_cons_succ]
        clear hcod
        refine wpAnyH_ready (rs := [8]) (by kernel_rfl) (by simp) ?_
        refine AllReadyH.cons (by simp only [List.getElem?_toArray, List.getElem?_cons_succ, List.getElem?_cons_zero]; rfl) (fun K hK => ?_) AllReadyH.nil
        refine step_append_G elem_a20 idE_len (by decide) (by decide) idE_one (by rfl) _ _ rfl w1.heap.size (.slice oa k oc) (c.ps.take k) k HTL.out rfl HO6.out wr.heap.size 0 1 1 [p] rfl (by decide) rfl (one_G wr.drew _ p) (k + 1) (c.ps.take (k + 1)) rfl HT.out.symm (by have := HKN.out; have := HNB.out; omega) HF6.out.size ?_
        rintro g2 gc2 w7 ho7 hg7 hgg hgl
        have HO7 := Lib.hid ho7
        have HF7 : Hid (FrR ob w1 w7) := HF6.out.grown hg7 (fun g hg => (HO6.out.lt hg).1)
        have HR7 : Hid (w7.heap[ob]? = some (.cells (coA c (.slice oa k oc) (.slice none 0 0)) 28 (0, 0))) := (hg7.block ob (Array.getElem?_eq_some_iff.1 HR6.out).1 (fun e => by have h1 := (HO6.out.lt e.symm).1; have h2 := HOB.out; omega)).trans HR6.out
        have HP7 : Hid (w7.cell? ⟨p0, 20, none⟩ = some (.slice (some ⟨b, off, none⟩) n pc)) := HPC.out w7 HF7.out
        have HX7 : Hid (w7.rangeAt b (off + k * 20) (U8 p)) := HXR.out w7 HF7.out
        clear ho7 hg7 hgg hgl
        refine hK.out _ _ (⟨HP7.out, HX7.out⟩) (fun hHeld2 => ?_)
        clear hK K hHeld
        have hHeld := hHeld2
        clear hHeld2
        try simp only [Act.put, List.setIfInBounds_toArray, List.set_cons_zero, List.set_cons_succ]
        refine tkV 9 (v := ?_) (hw := ?_) (h := ?_)
        rotate_left
        · intro W hSW
          go_simp
          try with_reducible rfl
        try simp only [Act.put, List.setIfInBounds_toArray, List.set_cons_zero, List.set_cons_succ]
        have hco7 := (CoRow.of HR7.out H20.out).pars
        have hfo7 := frozen_of_row w7 ob 20 _ _ HR7.out
        refine wpAnyH_ready (rs := [10]) (by kernel_rfl) (by simp) ?_
        refine AllReadyH.cons (by simp only [List.getElem?_toArray, List.getElem?_cons_succ, List.getElem?_cons_zero]; rfl) (fun K hK => ?_) AllReadyH.nil
        go_simp
        have HR8 : Hid ((w7.setCell ⟨ob, 20, none⟩ (.slice (some ⟨g2, 0, none⟩) (k + 1) gc2)).heap[ob]? = some (.cells (coA c (.slice (some ⟨g2, 0, none⟩) (k + 1) gc2) (.slice none 0 0)) 28 (0, 0))) := (heap_setCell_same w7 ob 20 _ _ _ HR7.out).trans (by rw [coA_set _ _ _ H20.out 0]; rfl)
        have HF8 : Hid (FrR ob w1 (w7.setCell ⟨ob, 20, none⟩ (.slice (some ⟨g2, 0, none⟩) (k + 1) gc2))) := HF7.out.trans (FrR.setCell ob 20 _ _)
        have HO8 : Hid (OwnG 20 idE 22 (w7.setCell ⟨ob, 20, none⟩ (.slice (some ⟨g2, 0, none⟩) (k + 1) gc2)) w1.heap.size (.slice (some ⟨g2, 0, none⟩) (k + 1) gc2) (c.ps.take (k + 1))) := HO7.out.move fun g hg _ => heap_setCell_ne w7 ⟨ob, 20, none⟩ _ g (by have := HOB.out; show g ≠ ob; omega)
        refine hK.out _ _ (⟨HPC.out _ HF8.out, HXR.out _ HF8.out⟩) (fun hHeld2 => ?_)
        clear hK K hHeld
        have hHeld := hHeld2
        clear hHeld2
        try simp only [Act.put, List.setIfInBounds_toArray, List.set_cons_zero, List.set_cons_succ]
        refine wpAnyH_done (by kernel_rfl) ?_ _
        refine NoPanic.normal ?_
        clear hHeld hco7 hfo7
        go_wp2_with fail
        try rw [WK.out ((k : Int) + 1) rfl]
        exact ⟨⟨k + 1, some ⟨g2, 0, none⟩, gc2, HKN.out, rfl, HO8.out, HR8.out, HF8.out⟩, by simp [intOf]; have := HKN.out; omega⟩
    · obtain rfl : k = n := by omega
      have HEY : Hid (c.ps.take k = c.ps) := by show _ = _; rw [List.take_of_length_le (by rw [HN.out]; omega)]
      rw [HEY.out] at HO
      have hp20 := HQ3.out
      clear hk hkn HEY
      obtain ⟨w2, hw2⟩ : ∃ W, wr = W := ⟨_, rfl⟩
      rw [hw2] at HO HR HF HQ3 hp20 ⊢
      clear hw2 HPC
      have HF2 := HF
      have HPL2 : Hid (p0 < w2.heap.size) := Nat.lt_of_lt_of_le HPL.out HF.out.size
      have HRL2 : Hid (rb < w2.heap.size) := Nat.lt_of_lt_of_le HRL.out HF.out.size
      have HR3 : Hid (w2.heap[rb]? = some (.cells (coA cz (.slice none 0 0) (.slice none 0 0)) 28 (0, 0))) := (HF.out.block rb HRL.out HN1.out.2.1).trans HR2.out
      have HOW : Hid (∀ W, FrR ob w2 W → OwnG 20 idE 22 W w1.heap.size (.slice oa k oc) c.ps) := fun W hW => HO.out.move fun g hg hgl => hW.block g hgl (by have := HOB.out; omega)
      have HP29B : Hid (w2.cell? ⟨p0, 29, none⟩ = some (.slice xa m xc)) := (HF.out.cell HPL.out HPO.out 29).trans HRW.out.exts
      have HPC : Hid (∀ W, FrR ob w2 W → W.cell? ⟨p0, 29, none⟩ = some (.slice xa m xc)) := fun W hW => (hW.cell HPL2.out HPO.out 29).trans HP29B.out
      have HBW2 : Hid (Below w.heap.size w w2) := HB2.out.trans (HF.out.below HN1.out.2.2.2.2.2 HB2.out.size)
      have HRI := HR
      go_wp2_with fail
      go_loopw [5] (fun i wt => ∃ (j : Nat) (qa : Option Addr) (qc : Nat), j ≤ m ∧ i = .int .i64 (j : Int) ∧ OwnG 2 extE 65 wt w2.heap.size (.slice qa j qc) (c.xs.take j) ∧ wt.heap[ob]? = some (.cells (coA c (.slice oa k oc) (.slice qa j qc)) 28 (0, 0)) ∧ FrR ob w2 wt) (fun i _ => m - (intOf i).toNat)
      case atStart => exact ⟨0, none, 0, Nat.zero_le _, rfl, by rw [List.take_zero]; exact OwnG.nil _ _ _, HRI.out, FrR.refl _ _⟩
      case round =>
        rename World => wt
        obtain ⟨j, qa, qc, hj, rfl, hq, ht, hg⟩ := hrel
        have HOP := HO
        have HRP := HR
        have HFP := HF
        clear HO HR HF HRI WK
        have HO := Lib.hid hq
        have HR := Lib.hid ht
        have HF := Lib.hid hg
        have WK := Lib.hid (next_int j (by have := HMB.out; omega))
        have HQ3 := Lib.hid (HPC.out wt HF.out)
        clear hq ht hg
        by_cases hjm : j < m
        · have hji : (j : Int) < (m : Int) := by omega
          have HKN := Lib.hid hjm
          rcases HAX.out with h0 | ⟨b, off, rfl, hbl, hc⟩
          · rw [HM.out] at h0; omega
          obtain ⟨x, hx⟩ : ∃ x, c.xs[j]? = some x := ⟨_, List.getElem?_eq_getElem (by rw [HM.out]; exact hjm)⟩
          have HXR : Hid (∀ W, FrR ob w2 W → W.rangeAt b (off + j * 2) (extE x)) := fun W hW => hW.range (by have := HBW2.out.size; omega) (by have := HN1.out; omega) (range_below (hc j x hx) HBW2.out hbl)
          have HQ4 := Lib.hid (HXR.out _ HF.out)
          have HT : Hid (c.xs.take (j + 1) = c.xs.take j ++ [x]) := take_snoc hx
          have HTL : Hid ((c.xs.take j).length = j) := by show _ = _; rw [List.length_take, HM.out]; omega
          clear hx hbl hc hjm hj
          have hp29 := HQ3.out
          go_wp2_with fail
          have HF6 : Hid (FrR ob w2 (wt.drew.alloc (.cells (extE x).toArray 65))) := HF.out.drew.trans (FrR.of ((Below.refl _ _).alloc (Nat.le_refl _) _))
          have HO6 : Hid (OwnG 2 extE 65 (wt.drew.alloc (.cells (extE x).toArray 65)) w2.heap.size (.slice qa j qc) (c.xs.take j)) := HO.out.below ((Below.refl _ _).drew.alloc (Nat.le_refl _) _)
          have HR6 : Hid ((wt.drew.alloc (.cells (extE x).toArray 65)).heap[ob]? = some (.cells (coA c (.slice oa k oc) (.slice qa j qc)) 28 (0, 0))) := (Below.heap_alloc _ _ _ (Array.getElem?_eq_some_iff.1 HR.out).1).trans HR.out
          have HQ1 := Lib.hid (HPC.out _ HF6.out)
          have HQ2 := Lib.hid (HXR.out _ HF6.out)
          refine wp_region_noPanic ?_
          refine wp_region_held_drew (S := fun W => W.cell? ⟨p0, 29, none⟩ = some (.slice (some ⟨b, off, none⟩) m xc) ∧ W.rangeAt b (off + j * 2) (extE x)) (by kernel_rfl) ?_ (fun hHeld => ?_)
          · exact ⟨HQ3.out, HQ4.out⟩
          refine tkV 0 (v := ?_) (hw := ?_) (h := ?_)
          rotate_left
          · intro W hSW
            go_simp
            try with_reducible rfl
          try simp only [Act.put, List.setIfInBounds_toArray, List.set_cons_zero, List.set_cons_succ]
          refine tkV 2 (v := ?_) (hw := ?_) (h := ?_)
          rotate_left
          · intro W hSW
            go_simp
            try with_reducible rfl
          try simp only [Act.put, List.setIfInBounds_toArray, List.set_cons_zero, List.set_cons_succ]
          refine tkY 3 (hy := (yieldsIf_load_sl (by rfl) 32 _ rfl p0 29 rfl (.slice (some ⟨b, off, none⟩) m xc) (fun W hSW => hSW.1) Tryz.underlying32)) (h := ?_)
          try simp only [Act.put, List.setIfInBounds_toArray, List.set_cons_zero, List.set_cons_succ]
          refine tkV 4 (v := ?_) (hw := ?_) (h := ?_)
          rotate_left
          · intro W hSW
            go_simp
            try with_reducible rfl
          try simp only [Act.put, List.setIfInBounds_toArray, List.set_cons_zero, List.set_cons_succ]
          refine tkV 5 (v := ?_) (hw := ?_) (h := ?_)
          rotate_left
          · intro W hSW
            go_simp
            try with_reducible rfl
          try simp only [Act.put, List.setIfInBounds_toArray, List.set_cons_zero, List.set_cons_succ]
          refine tkV 6 (v := ?_) (hw := ?_) (h := ?_)
          rotate_left
          · intro W hSW
            go_simp
            try with_reducible rfl
          try simp only [Act.put, List.setIfInBounds_toArray, List.set_cons_zero, List.set_cons_succ]
          refine tkY 7 (hy := (yieldsIf_load_str (by rfl) 9 _ rfl b (off + j * 2) rfl x.1 (fun W hSW => range_key hSW.2) Tryz.underlying9)) (h := ?_)
          try simp only [Act.put, List.setIfInBounds_toArray, List.set_cons_zero, List.set_cons_succ]
          refine tkV 8 (v := ?_) (hw := ?_) (h := ?_)
          rotate_left
          · intro W hSW
            go_simp
            try with_reducible rfl
          try simp only [Act.put, List.setIfInBounds_toArray, List.set_cons_zero, List.set_cons_succ]
          refine tkY 9 (hy := (yieldsIf_load_sl (by rfl) 32 _ rfl p0 29 rfl (.slice (some ⟨b, off, none⟩) m xc) (fun W hSW => hSW.1) Tryz.underlying32)) (h := ?_)
          try simp only [Act.put, List.setIfInBounds_toArray, List.set_cons_zero, List.set_cons_succ]
          refine tkV 10 (v := ?_) (hw := ?_) (h := ?_)
          rotate_left
          · intro W hSW
            go_simp
            try with_reducible rfl
          try simp only [Act.put, List.setIfInBounds_toArray, List.set_cons_zero, List.set_cons_succ]
          refine tkV 11 (v := ?_) (hw := ?_) (h := ?_)
          rotate_left
          · intro W hSW
            go_simp
            try with_reducible rfl
          try simp only [Act.put, List.setIfInBounds_toArray, List.set_cons_zero, List.set_cons_succ]
          refine tkV 12 (v := ?_) (hw := ?_) (h := ?_)
          rotate_left
          · intro W hSW
            go_simp
            try with_reducible rfl
          try simp only [Act.put, List.setIfInBounds_toArray, List.set_cons_zero, List.set_cons_succ]
          refine tkY 13 (hy := (yieldsIf_load_str (by rfl) 9 _ rfl b (off + j * 2 + 1) rfl x.2 (fun W hSW => range_val hSW.2) Tryz.underlying9)) (h := ?_)
          try simp only [Act.put, List.setIfInBounds_toArray, List.set_cons_zero, List.set_cons_succ]
          refine tkY 14 (hy := (yieldsIf_build (by rfl) _ _ rfl #[(0, .string x.1), (1, .string x.2)] (map_two _ _ _ _ _ rfl rfl) (.agg (extE x).toArray) (fun W => build_rcext x.1 x.2 W))) (h := ?_)
          try simp only [Act.put, List.setIfInBounds_toArray, List.set_cons_zero, List.set_cons_succ]
          refine wpAnyH_ready (rs := [1, 15]) (by kernel_rfl) (by simp) ?_
          refine AllReadyH.cons (by simp only [List.getElem?_toArray, List.getElem?_cons_succ, List.getElem?_cons_zero]; rfl) (fun K hK => ?_) (AllReadyH.cons (by simp only [List.getElem?_toArray, List.getElem?_cons_succ, List.getElem?_cons_zero]; rfl) (fun K hK => ?_) AllReadyH.nil)
          · have hcod := (CoRow.of (w := wt.drew) (by exact HR.out) H20.out).exts
            go_simp
            refine hK.out _ _ (⟨HQ3.out, HQ4.out⟩) (fun hHeld2 => ?_)
            clear hK K hHeld
            have hHeld := hHeld2
            clear hHeld2
            try simp only [Act.put, List.setIfInBounds_toArray, List.set_cons_zero, List.set_cons_succ]
            clear hcod
            refine wpAnyH_ready (rs := [15]) (by kernel_rfl) (by simp) ?_
            refine AllReadyH.cons (by simp only [List.getElem?_toArray, List.getElem?_cons_succ, List.getElem?_cons_zero]; rfl) (fun K hK => ?_) AllReadyH.nil
            refine step_slice (by rfl) _ _ _ rfl #[(0, .agg (extE x).toArray)] (map_one _ _ _ rfl) _ _ (slice_G1 elem_rcext (by decide) (by decide) (by decide) extE_len x (.agg (extE x).toArray) (rfl) _) ?_
            refine hK.out _ _ (⟨HQ1.out, HQ2.out⟩) (fun hHeld2 => ?_)
            clear hK K hHeld
            have hHeld := hHeld2
            clear hHeld2
            try simp only [Act.put, List.setIfInBounds_toArray, List.set_cons_zero, List.set_cons_succ]
            refine wpAnyH_ready (rs := [16]) (by kernel_rfl) (by simp) ?_
            refine AllReadyH.cons (by simp only [List.getElem?_toArray, List.getElem?_cons_succ, List.getElem?_cons_zero]; rfl) (fun K hK => ?_) AllReadyH.nil
            refine step_append_G elem_rcext extE_len (by decide) (by decide) extE_one (by rfl) _ _ rfl w2.heap.size (.slice qa j qc) (c.xs.take j) j HTL.out rfl HO6.out wt.heap.size 0 1 1 [x] rfl (by decide) rfl (one_G wt.drew _ x) (j + 1) (c.xs.take (j + 1)) rfl HT.out.symm (by have := HKN.out; have := HMB.out; omega) HF6.out.size ?_
            rintro g2 gc2 w7 ho7 hg7 hgg hgl
            have HO7 := Lib.hid ho7
            have HF7 : Hid (FrR ob w2 w7) := HF6.out.grown hg7 (fun g hg => (HO6.out.lt hg).1)
            have HR7 : Hid (w7.heap[ob]? = some (.cells (coA c (.slice oa k oc) (.slice qa j qc)) 28 (0, 0))) := (hg7.block ob (Array.getElem?_eq_some_iff.1 HR6.out).1 (fun e => by have h1 := (HO6.out.lt e.symm).1; have h2 := HOB.out; have h3 := HF2.out.size; omega)).trans HR6.out
            have HP7 : Hid (w7.cell? ⟨p0, 29, none⟩ = some (.slice (some ⟨b, off, none⟩) m xc)) := HPC.out w7 HF7.out
            have HX7 : Hid (w7.rangeAt b (off + j * 2) (extE x)) := HXR.out w7 HF7.out
            clear ho7 hg7 hgg hgl
            refine hK.out _ _ (⟨HP7.out, HX7.out⟩) (fun hHeld2 => ?_)
            clear hK K hHeld
            have hHeld := hHeld2
            clear hHeld2
            try simp only [Act.put, List.setIfInBounds_toArray, List.set_cons_zero, List.set_cons_succ]
            refine tkV 17 (v := ?_) (hw := ?_) (h := ?_)
            rotate_left
            · intro W hSW
              go_simp
              try with_reducible rfl
            try simp only [Act.put, List.setIfInBounds_toArray, List.set_cons_zero, List.set_cons_succ]
            have hco7 := (CoRow.of HR7.out H20.out).exts
            have hfo7 := frozen_of_row w7 ob 29 _ _ HR7.out
            refine wpAnyH_ready (rs := [18]) (by kernel_rfl) (by simp) ?_
            refine AllReadyH.cons (by simp only [List.getElem?_toArray, List.getElem?_cons_succ, List.getElem?_cons_zero]; rfl) (fun K hK => ?_) AllReadyH.nil
            go_simp
            have HR8 : Hid ((w7.setCell ⟨ob, 29, none⟩ (.slice (some ⟨g2, 0, none⟩) (j + 1) gc2)).heap[ob]? = some (.cells (coA c (.slice oa k oc) (.slice (some ⟨g2, 0, none⟩) (j + 1) gc2)) 28 (0, 0))) := (heap_setCell_same w7 ob 29 _ _ _ HR7.out).trans (by rw [coA_set _ _ _ H20.out 9]; rfl)
            have HF8 : Hid (FrR ob w2 (w7.setCell ⟨ob, 29, none⟩ (.slice (some ⟨g2, 0, none⟩) (j + 1) gc2))) := HF7.out.trans (FrR.setCell ob 29 _ _)
            have HO8 : Hid (OwnG 2 extE 65 (w7.setCell ⟨ob, 29, none⟩ (.slice (some ⟨g2, 0, none⟩) (j + 1) gc2)) w2.heap.size (.slice (some ⟨g2, 0, none⟩) (j + 1) gc2) (c.xs.take (j + 1))) := HO7.out.move fun g hg _ => heap_setCell_ne w7 ⟨ob, 29, none⟩ _ g (by have := HOB.out; have h3 := HF2.out.size; show g ≠ ob; omega)
            refine hK.out _ _ (⟨HPC.out _ HF8.out, HXR.out _ HF8.out⟩) (fun hHeld2 => ?_)
            clear hK K hHeld
            have hHeld := hHeld2
            clear hHeld2
            try simp only [Act.put, List.setIfInBounds_toArray, List.set_cons_zero, List.set_cons_succ]
            refine wpAnyH_done (by kernel_rfl) ?_ _
            refine NoPanic.normal ?_
            clear hHeld hco7 hfo7
            go_wp2_with fail
            try rw [WK.out ((j : Int) + 1) rfl]
            exact ⟨⟨j + 1, some ⟨g2, 0, none⟩, gc2, HKN.out, rfl, HO8.out, HR8.out, HF8.out⟩, by simp [intOf]; have := HKN.out; omega⟩
          · refine step_slice (by rfl) _ _ _ rfl #[(0, .agg (extE x).toArray)] (map_one _ _ _ rfl) _ _ (slice_G1 elem_rcext (by decide) (by decide) (by decide) extE_len x (.agg (extE x).toArray) (rfl) _) ?_
            refine hK.out _ _ (⟨HQ1.out, HQ2.out⟩) (fun hHeld2 => ?_)
            clear hK K hHeld
            have hHeld := hHeld2
            clear hHeld2
            try simp only [Act.put, List.setIfInBounds_toArray, List.set_cons_zero, List.set_cons_succ]
            refine wpAnyH_ready (rs := [1]) (by kernel_rfl) (by simp) ?_
            refine AllReadyH.cons (by simp only [List.getElem?_toArray, List.getElem?_cons_succ, List.getElem?_cons_zero]; rfl) (fun K hK => ?_) AllReadyH.nil
            have hcod := (CoRow.of (w := wt.alloc (.cells (extE x).toArray 65)) (by exact HR6.out) H20.out).exts
            go_simp
            try rw [show (wt.alloc (.cells (extE x).toArray 65)).drew = wt.drew.alloc (.cells (extE x).toArray 65) from rfl]
            refine hK.out _ _ (⟨HQ1.out, HQ2.out⟩) (fun hHeld2 => ?_)
            clear hK K hHeld
            have hHeld := hHeld2
            clear hHeld2
            try simp only [Act.put, List.setIfInBounds_toArray, List.set_cons_zero, List.set_cons_succ]
            clear hcod
            refine wpAnyH_ready (rs := [16]) (by kernel_rfl) (by simp) ?_
            refine AllReadyH.cons (by simp only [List.getElem?_toArray, List.getElem?_cons_succ, List.getElem?_cons_zero]; rfl) (fun K hK => ?_) AllReadyH.nil
            refine step_append_G elem_rcext extE_len (by decide) (by decide) extE_one (by rfl) _ _ rfl w2.heap.size (.slice qa j qc) (c.xs.take j) j HTL.out rfl HO6.out wt.heap.size 0 1 1 [x] rfl (by decide) rfl (one_G wt.drew _ x) (j + 1) (c.xs.take (j + 1)) rfl HT.out.symm (by have := HKN.out; have := HMB.out; omega) HF6.out.size ?_
            rintro g2 gc2 w7 ho7 hg7 hgg hgl
            have HO7 := Lib.hid ho7
            have HF7 : Hid (FrR ob w2 w7) := HF6.out.grown hg7 (fun g hg => (HO6.out.lt hg).1)
            have HR7 : Hid (w7.heap[ob]? = some (.cells (coA c (.slice oa k oc) (.slice qa j qc)) 28 (0, 0))) := (hg7.block ob (Array.getElem?_eq_some_iff.1 HR6.out).1 (fun e => by have h1 := (HO6.out.lt e.symm).1; have h2 := HOB.out; have h3 := HF2.out.size; omega)).trans HR6.out
            have HP7 : Hid (w7.cell? ⟨p0, 29, none⟩ = some (.slice (some ⟨b, off, none⟩) m xc)) := HPC.out w7 HF7.out
            have HX7 : Hid (w7.rangeAt b (off + j * 2) (extE x)) := HXR.out w7 HF7.out
            clear ho7 hg7 hgg hgl
            refine hK.out _ _ (⟨HP7.out, HX7.out⟩) (fun hHeld2 => ?_)
            clear hK K hHeld
            have hHeld := hHeld2
            clear hHeld2
            try simp only [Act.put, List.setIfInBounds_toArray, List.set_cons_zero, List.set_cons_succ]
            refine tkV 17 (v := ?_) (hw := ?_) (h := ?_)
            rotate_left
            · intro W hSW
              go_simp
              try with_reducible rfl
            try simp only [Act.put, List.setIfInBounds_toArray, List.set_cons_zero, List.set_cons_succ]
            have hco7 := (CoRow.of HR7.out H20.out).exts
            have hfo7 := frozen_of_row w7 ob 29 _ _ HR7.out
            refine wpAnyH_ready (rs := [18]) (by kernel_rfl) (by simp) ?_
            refine AllReadyH.cons (by simp only [List.getElem?_toArray, List.getElem?_cons_succ, List.getElem?_cons_zero]; rfl) (fun K hK => ?_) AllReadyH.nil
            go_simp
            have HR8 : Hid ((w7.setCell ⟨ob, 29, none⟩ (.slice (some ⟨g2, 0, none⟩) (j + 1) gc2)).heap[ob]? = some (.cells (coA c (.slice oa k oc) (.slice (some ⟨g2, 0, none⟩) (j + 1) gc2)) 28 (0, 0))) := (heap_setCell_same w7 ob 29 _ _ _ HR7.out).trans (by rw [coA_set _ _ _ H20.out 9]; rfl)
            have HF8 : Hid (FrR ob w2 (w7.setCell ⟨ob, 29, none⟩ (.slice (some ⟨g2, 0, none⟩) (j + 1) gc2))) := HF7.out.trans (FrR.setCell ob 29 _ _)
            have HO8 : Hid (OwnG 2 extE 65 (w7.setCell ⟨ob, 29, none⟩ (.slice (some ⟨g2, 0, none⟩) (j + 1) gc2)) w2.heap.size (.slice (some ⟨g2, 0, none⟩) (j + 1) gc2) (c.xs.take (j + 1))) := HO7.out.move fun g hg _ => heap_setCell_ne w7 ⟨ob, 29, none⟩ _ g (by have := HOB.out; have h3 := HF2.out.size; show g ≠ ob; omega)
            refine hK.out _ _ (⟨HPC.out _ HF8.out, HXR.out _ HF8.out⟩) (fun hHeld2 => ?_)
            clear hK K hHeld
            have hHeld := hHeld2
            clear hHeld2
            try simp only [Act.put, List.setIfInBounds_toArray, List.set_cons_zero, List.set_cons_succ]
            refine wpAnyH_done (by kernel_rfl) ?_ _
            refine NoPanic.normal ?_
            clear hHeld hco7 hfo7
            go_wp2_with fail
            try rw [WK.out ((j : Int) + 1) rfl]
            exact ⟨⟨j + 1, some ⟨g2, 0, none⟩, gc2, HKN.out, rfl, HO8.out, HR8.out, HF8.out⟩, by simp [intOf]; have := HKN.out; omega⟩
        · obtain rfl : j = m := by omega
          have HEX : Hid (c.xs.take j = c.xs) := by show _ = _; rw [List.take_of_length_le (by rw [HM.out]; omega)]
          rw [HEX.out] at HO
          have hp29 := HQ3.out
          clear hj hjm HEX
          have HCL : Hid ((coL c (.slice oa k oc) (.slice qa j qc)).toArray = coV c oa oc qa qc) := by show _ = _; unfold coV; rw [HN.out, HM.out]; rfl
          have HRF : Hid (wt.heap[rb]? = some (.cells (coA cz (.slice none 0 0) (.slice none 0 0)) 28 (0, 0))) := (HF.out.block rb HRL2.out HN1.out.2.1).trans HR3.out
          have HBF : Hid (Below w.heap.size w wt) := HBW2.out.trans (HF.out.below HN1.out.2.2.2.2.2 HBW2.out.size)
          have HOF := Lib.hid (HOW.out wt HF.out)
          have HSZ : Hid ((coV c oa oc qa qc).size = 31) := coA_size _ _ _ H20.out
          go_wp2_with (first
            | (refine wpList_load_mid rfl 28 _ rfl ob 0 rfl (coL c (.slice oa k oc) (.slice qa j qc)) _ (CoRow.of HR.out H20.out).cells Tryz.underlying28 rfl (info_rco c _ _ H20.out) ?_
               rw [HCL.out])
            | refine wpList_store_row rfl 28 _ _ rfl rb (coV c oa oc qa qc) rfl rfl 28 (coA cz (.slice none 0 0) (.slice none 0 0)) HRF.out (info_rcoA c _ _ H20.out) (by rw [HSZ.out, coA_size _ _ _ cz_20]) (coA_one _ _ _ rfl rfl) ?_)
          refine bodyPost_ret (results_cell_row Tryz.results10 _ _ rb 28 (coV c oa oc qa qc) (0, 0) _ rfl (setRow_heap _ _ _ _ _ _ HRF.out) Tryz.underlying28 rfl (info_rcoA c _ _ H20.out)) rfl ?_
          refine ⟨⟨oa, oc, qa, qc, rfl, H20.out, HBYT.out, HIDS.out, rowat_setRow (HOF.out.fs idE_len).1 (fun b' off' he _ => by have := HOF.out.base he; have := HRL.out; omega), rowat_setRow (HO.out.fs extE_len).1 (fun b' off' he _ => by have := HO.out.base he; have := HRL2.out; omega)⟩, below_setRow HBF.out HN1.out.2.2.2.2.1 _⟩
end Go.Proofs.YtkpiinjhcckhfaaGreatDoor
