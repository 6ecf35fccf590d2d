/- A commit that came in. -/
import Derived.Test.YtkpiinjhcckhfaaGreatDoorCoOf
import Derived.Test.YtkpiinjhcckhfaaGreatDoorChMake
import Derived.Test.YtkpiinjhcckhfaaGreatDoorChTo
/-! A commit that came in. -/
namespace Go.Proofs.YtkpiinjhcckhfaaGreatDoor
open Go.RowKit Plain Go.ChangeShapes Go.WideShapes Go.ChangeAt Go.Deep
set_option linter.unusedVariables false
/-- A commit that came in: every size is one that a program may have. -/
structure InCo (w : World) (c : CC) (pa xa : Option Addr) : Prop where
  at_ : CoAt w c pa xa
  pn : c.ps.length ≤ 9223372036854775807
  xn : c.xs.length ≤ 9223372036854775807
  aw : InWho c.a
  cw : InWho c.c
  ms : c.m.size ≤ maxLen
  xsz : ∀ x ∈ c.xs, x.1.size ≤ maxLen ∧ x.2.size ≤ maxLen
theorem InCo.below {w w' : World} {c : CC} {pa xa : Option Addr} (h : InCo w c pa xa) (hb : Below w.heap.size w w') : InCo w' c pa xa := ⟨h.at_.below hb, h.pn, h.xn, h.aw, h.cw, h.ms, h.xsz⟩
set_option maxRecDepth 100000 in
theorem open_commit {H : Type} {enc : TypeId × Value → H} {w : World} {base b0 : Nat} {held : Bool} {r : Reach} {v : Value} {d : DataW H} {p : List MemPlace}
    (hv : Value.okWide Tryz.prog w r b0 28 v) (h : DataW.Trod enc Tryz.prog w base (fun _ => true) held 28 v d p) :
    ∃ (c : CC) (pa : Option Addr) (pc : Nat) (xa : Option Addr) (xc : Nat), v = .agg (coV c pa pc xa xc) ∧ InCo w c pa xa := by
  have ht := Tryz.underlying28
  simp only [Value.okWide, ht] at hv
  obtain ⟨cs, rfl, hsz, -⟩ := hv
  obtain ⟨fuel, hf⟩ := h
  obtain ⟨ys, n, -, -, -, hyl, hg⟩ := DataW.trod_struct ht hf
  have hC : Tryz.prog.cellsOf 28 = 31 := by kernel_rfl
  have hC1 : Tryz.prog.cellsOf 9 = 1 := by kernel_rfl
  have hC2 : Tryz.prog.cellsOf 22 = 20 := by kernel_rfl
  have hC4 : Tryz.prog.cellsOf 23 = 1 := by kernel_rfl
  have hC5 : Tryz.prog.cellsOf 26 = 1 := by kernel_rfl
  have hC6 : Tryz.prog.cellsOf 65 = 2 := by kernel_rfl
  have hC7 : Tryz.prog.cellsOf 25 = 4 := by kernel_rfl
  rw [hC] at hsz
  have hl : cs.toList.length = 31 := hsz
  have hyl6 : ys.length = 6 := hyl
  have g0 := hg 0 _ rfl
  have g1 := hg 1 _ rfl
  have g2 := hg 2 _ rfl
  have g3 := hg 3 _ rfl
  have g4 := hg 4 _ rfl
  have g5 := hg 5 _ rfl
  rw [List.getElem?_eq_getElem (by omega)] at g0 g1 g2 g3 g4 g5
  change DataW.trod enc Tryz.prog w base (fun _ => true) held n 22 ((cs.toList.drop 0).take (Tryz.prog.cellsOf 22)) = some _ at g0
  rw [hC2] at g0
  change DataW.trod enc Tryz.prog w base (fun _ => true) held n 23 ((cs.toList.drop 20).take (Tryz.prog.cellsOf 23)) = some _ at g1
  rw [hC4] at g1
  change DataW.trod enc Tryz.prog w base (fun _ => true) held n 25 ((cs.toList.drop 21).take (Tryz.prog.cellsOf 25)) = some _ at g2
  rw [hC7] at g2
  change DataW.trod enc Tryz.prog w base (fun _ => true) held n 25 ((cs.toList.drop 25).take (Tryz.prog.cellsOf 25)) = some _ at g3
  rw [hC7] at g3
  change DataW.trod enc Tryz.prog w base (fun _ => true) held n 26 ((cs.toList.drop 29).take (Tryz.prog.cellsOf 26)) = some _ at g4
  rw [hC5] at g4
  change DataW.trod enc Tryz.prog w base (fun _ => true) held n 9 ((cs.toList.drop 30).take (Tryz.prog.cellsOf 9)) = some _ at g5
  rw [hC1] at g5
  obtain ⟨N, hN, hNl, hNb⟩ := trod_ids Tryz.underlying22 (by rw [List.length_take, List.length_drop, hl]; rfl) g0
  obtain ⟨pa, pc, ps, hP, hpn, hpr, hpo⟩ := trod_rowG (k := 20) (encα := idE) (Ok := fun p => p.length = 20 ∧ ∀ x ∈ p, 0 ≤ x ∧ x ≤ 255) Tryz.underlying23 hC2 (by decide) idE_len zeros20 (fun n' cs' y' hcl hst => by
    obtain ⟨zs, h1, h2, h3⟩ := trod_ids Tryz.underlying22 hcl hst
    exact ⟨zs, by rw [idE_of h2]; exact h1, h2, h3⟩) g1
  obtain ⟨A, hA, hAi⟩ := trod_who (by rw [List.length_take, List.length_drop, hl]; rfl) g2
  obtain ⟨C, hCc, hCi⟩ := trod_who (by rw [List.length_take, List.length_drop, hl]; rfl) g3
  obtain ⟨xa, xc, xs, hX, hxn, hxr, hxo⟩ := trod_rowG (k := 2) (encα := extE) (Ok := fun x => x.1.size ≤ maxLen ∧ x.2.size ≤ maxLen) Tryz.underlying26 hC6 (by decide) extE_len (⟨#[]⟩, ⟨#[]⟩) (fun n' cs' y' hcl hst => by
    obtain ⟨z0, z1, n2, -, -, q0, q1⟩ := trod_struct2 Tryz.underlying65 hst
    simp only [hC1] at q0 q1
    change DataW.trod enc Tryz.prog w base (fun _ => true) held n2 9 ((cs'.drop 0).take 1) = some z0 at q0
    change DataW.trod enc Tryz.prog w base (fun _ => true) held n2 9 ((cs'.drop 1).take 1) = some z1 at q1
    obtain ⟨K, hK, -, hks⟩ := DataW.trod_string Tryz.underlying9 q0
    obtain ⟨V, hV, -, hvs⟩ := DataW.trod_string Tryz.underlying9 q1
    refine ⟨(K, V), ?_, hks, hvs⟩
    rw [List.drop_zero] at hK
    rw [List.take_of_length_le (by rw [List.length_drop, hcl]; decide)] at hV
    rw [← List.take_append_drop 1 cs', hK, hV]
    rfl) g4
  obtain ⟨M, hM, -, hms⟩ := DataW.trod_string Tryz.underlying9 g5
  refine ⟨⟨N, ps, A, C, xs, M⟩, pa, pc, xa, xc, ?_, ⟨hNl, hNb, hpo, hpr, hxr⟩, hpn, hxn, hAi, hCi, hms, hxo⟩
  congr 1
  apply Array.toList_inj.1
  rw [List.drop_zero] at hN
  have step : ∀ (i : Nat) (u : Value), (cs.toList.drop i).take 1 = [u] → cs.toList.drop i = u :: cs.toList.drop (i + 1) := fun i u h => by
    rw [← List.take_append_drop 1 (cs.toList.drop i), h, List.drop_drop]
    rfl
  have step4 : ∀ (i : Nat) (us : List Value), (cs.toList.drop i).take 4 = us → cs.toList.drop i = us ++ cs.toList.drop (i + 4) := fun i us h => by
    rw [← List.take_append_drop 4 (cs.toList.drop i), h, List.drop_drop]
  have e6 : cs.toList.drop 31 = [] := List.drop_of_length_le (by omega)
  rw [← List.take_append_drop 20 cs.toList, hN, step 20 _ hP, step4 21 _ hA, step4 25 _ hCc, step 29 _ hX, step 30 _ hM, e6]
  rfl
end Go.Proofs.YtkpiinjhcckhfaaGreatDoor
/-! The program's commit of the document's, cut: the walk. -/
namespace Go.Proofs.YtkpiinjhcckhfaaGreatDoor
open Go.RowKit Plain Go.ChangeShapes Go.WideShapes Go.ChangeAt Go.Great
set_option linter.unusedVariables false
set_option linter.unusedSimpArgs false
def fewXX (x : ByteArray × ByteArray) : ByteArray × ByteArray := (cutB 200 x.1, cutB 200 x.2)
def fewCC (c : CC) : CC := ⟨c.tr, c.ps.take 20, fewW c.a, fewW c.c, (c.xs.take 20).map fewXX, cutB 500 c.m⟩
theorem id20_info8 (xs : List Int) (h : xs.length = 20) : (Tryz.prog.info? 22).map (·.size) = some (U8 xs).length := by rw [U8_length, h]; kernel_rfl
theorem zero_rcext (W : World) : (zeroValue 65).run Tryz.prog W = .ok (.agg #[.string ⟨#[]⟩, .string ⟨#[]⟩]) W := by kernel_rfl
theorem info_rcext (x : ByteArray × ByteArray) : (Tryz.prog.info? 65).map (·.size) = some (extE x).length := by show _ = some 2; kernel_rfl
theorem info_rcextA (x : ByteArray × ByteArray) : (Tryz.prog.info? 65).map (·.size) = some (extE x).toArray.size := by show _ = some 2; kernel_rfl
theorem built_co4 (a0 a1 a2 a3 a4 a5 a6 a7 a8 a9 a10 a11 a12 a13 a14 a15 a16 a17 a18 a19 : Int) (n m z n2 m2 z2 s : ByteArray) (t t2 : Int) : Tryz.prog.built 34 [(0, .agg #[.int .u8 a0, .int .u8 a1, .int .u8 a2, .int .u8 a3, .int .u8 a4, .int .u8 a5, .int .u8 a6, .int .u8 a7, .int .u8 a8, .int .u8 a9, .int .u8 a10, .int .u8 a11, .int .u8 a12, .int .u8 a13, .int .u8 a14, .int .u8 a15, .int .u8 a16, .int .u8 a17, .int .u8 a18, .int .u8 a19]), (2, .agg #[.string n, .string m, .int .i64 t, .string z]), (3, .agg #[.string n2, .string m2, .int .i64 t2, .string z2]), (5, .string s)] = some (coA ⟨[a0, a1, a2, a3, a4, a5, a6, a7, a8, a9, a10, a11, a12, a13, a14, a15, a16, a17, a18, a19], [], ⟨n, m, t, z⟩, ⟨n2, m2, t2, z2⟩, [], s⟩ (.slice none 0 0) (.slice none 0 0)) := by kernel_rfl
theorem build_co4 (c : CC) (h : c.tr.length = 20) (W : World) : (Instr.build 34 #[(0, .agg (V8 c.tr)), (2, .agg (whoA c.a)), (3, .agg (whoA c.c)), (5, .string c.m)]).run Tryz.prog W = .ok (.agg (coA c (.slice none 0 0) (.slice none 0 0))) W := by
  obtain ⟨tr, ps, ⟨n, m, t, z⟩, ⟨n2, m2, t2, z2⟩, xs, s⟩ := c
  obtain ⟨a0, a1, a2, a3, a4, a5, a6, a7, a8, a9, a10, a11, a12, a13, a14, a15, a16, a17, a18, a19, rfl⟩ := list20 h
  exact run_build W _ _ _ (built_co4 a0 a1 a2 a3 a4 a5 a6 a7 a8 a9 a10 a11 a12 a13 a14 a15 a16 a17 a18 a19 n m z n2 m2 z2 s t t2)
set_option maxRecDepth 100000 in
set_option maxHeartbeats 64000000 in
theorem coto_any (c : CC) (pa : Option Addr) (pc : Nat) (xa : Option Addr) (xc : Nat) (w : World) (hat : InCo w c pa xa) :
    Calls Tryz.prog 9 #[.agg (coV c pa pc xa xc)] w fun e w' => CoTold e w' (fewCC c) ∧ Below w.heap.size w w' := by
  obtain ⟨n, hN⟩ : ∃ n, c.ps.length = n := ⟨_, rfl⟩
  obtain ⟨m, hM⟩ : ∃ n, c.xs.length = n := ⟨_, rfl⟩
  have HN := Lib.hid hN
  have HM := Lib.hid hM
  have hNB : n ≤ 9223372036854775807 := by rw [← hN]; exact hat.pn
  have hMB : m ≤ 9223372036854775807 := by rw [← hM]; exact hat.xn
  have HAP := Lib.hid hat.at_.pars
  have HAX := Lib.hid hat.at_.exts
  have HIDS := Lib.hid hat.at_.ids
  have HBYT := Lib.hid hat.at_.byt
  have H20 : Hid ((fewCC c).tr.length = 20) := hat.at_.n20
  have hmm : min (c.m.size : Int) 500 = ((min c.m.size 500 : Nat) : Int) := by omega
  have hsm : ∀ W, (Instr.slice 9 (.string c.m) none (some (.int .i64 ((min c.m.size 500 : Nat) : Int))) none).run Tryz.prog W = .ok (.string (fewCC c).m) W := fun W => slice_front c.m (min c.m.size 500) (by omega) _ rfl W
  unfold coV
  rw [hN, hM]
  have hzr := zero_co
  have HB0 : Hid (Below w.heap.size w ((w.alloc (.cells (coA c (.slice pa n pc) (.slice xa m xc)) 28)).alloc (.cells (coA cz (.slice none 0 0) (.slice none 0 0)) 34))) := ((Below.refl _ _).alloc (Nat.le_refl _) _).alloc (by simp) _
  have HP0 : Hid (((w.alloc (.cells (coA c (.slice pa n pc) (.slice xa m xc)) 28)).alloc (.cells (coA cz (.slice none 0 0) (.slice none 0 0)) 34)).heap[w.heap.size]? = some (.cells (coA c (.slice pa n pc) (.slice xa m xc)) 28 (0, 0))) := (Below.heap_alloc _ _ _ (by simp)).trans (heap_alloc_new _ _)
  have HR0 : Hid (((w.alloc (.cells (coA c (.slice pa n pc) (.slice xa m xc)) 28)).alloc (.cells (coA cz (.slice none 0 0) (.slice none 0 0)) 34)).heap[w.heap.size + 1]? = some (.cells (coA cz (.slice none 0 0) (.slice none 0 0)) 34 (0, 0))) := by
    have h1 := heap_alloc_new (w.alloc (.cells (coA c (.slice pa n pc) (.slice xa m xc)) 28)) (.cells (coA cz (.slice none 0 0) (.slice none 0 0)) 34)
    rw [show (w.alloc (.cells (coA c (.slice pa n pc) (.slice xa m xc)) 28)).heap.size = w.heap.size + 1 by simp] at h1
    exact h1
  clear hN hM hat
  go_enter Tryz.func9, Tryz.ntmps9
  go_wp2_with fail
  obtain ⟨w0, hw0⟩ : ∃ W, (w.alloc (.cells (coA c (.slice pa n pc) (.slice xa m xc)) 28)).alloc (.cells (coA cz (.slice none 0 0) (.slice none 0 0)) 34) = W := ⟨_, rfl⟩
  rw [hw0] at HB0 HP0 HR0 ⊢
  clear hw0
  obtain ⟨p0, hp0⟩ : ∃ b, w.heap.size = b := ⟨_, rfl⟩
  have HPE : Hid (w.heap.size = p0) := hp0
  rw [hp0] at HP0 HR0 ⊢
  obtain ⟨rb, hrb⟩ : ∃ b, p0 + 1 = b := ⟨_, rfl⟩
  rw [hrb] at HR0 ⊢
  have HNE0 : Hid (p0 ≠ rb ∧ p0 < w0.heap.size ∧ rb < w0.heap.size ∧ w.heap.size ≤ p0 ∧ w.heap.size ≤ rb) := by have h1 := (Array.getElem?_eq_some_iff.1 HP0.out).1; have h2 := (Array.getElem?_eq_some_iff.1 HR0.out).1; show _ ∧ _; omega
  clear hp0 hrb
  have HW0P : Hid (∀ W, Below w0.heap.size w0 W → W.heap[p0]? = some (.cells (coA c (.slice pa n pc) (.slice xa m xc)) 28 (0, 0))) := fun W hW => (hW.block p0 HNE0.out.2.1).trans HP0.out
  have HRW0 : Hid (CoRow w0 p0 c (.slice pa n pc) (.slice xa m xc)) := CoRow.of HP0.out H20.out
  have HRWD : Hid (CoRow w0.drew p0 c (.slice pa n pc) (.slice xa m xc)) := HRW0.out.below HNE0.out.2.1 (Below.refl _ _).drew
  have HVD : Hid (Below w0.heap.size w0 w0.drew) := (Below.refl _ _).drew
  apply wp_via_n (R := fun ob W => w0.heap.size ≤ ob ∧ W.heap[ob]? = some (.cells (coA (fewCC c) (.slice none 0 0) (.slice none 0 0)) 34 (0, 0)) ∧ Below w0.heap.size w0 W)
  · skip
    refine wp_region_noPanic ?_
    refine wp_region_held_drew (S := fun W => CoRow W p0 c (.slice pa n pc) (.slice xa m xc)) (by kernel_rfl) ?_ (fun hHeld => ?_)
    · exact HRWD.out
    refine tkV 0 (v := ?_) (hw := ?_) (h := ?_)
    rotate_left
    · intro W hSW
      go_simp
      try with_reducible rfl
    try simp only [Act.put, List.setIfInBounds_toArray, List.set_cons_zero, List.set_cons_succ]
    refine tkY 1 (hy := (yieldsIf_load_mid (by rfl) 22 _ rfl p0 0 rfl (U8 c.tr) (.array 20 5) (fun W hSW => hSW.tree) Tryz.underlying22 rfl (id20_info8 c.tr H20.out))) (h := ?_)
    try simp only [Act.put, List.setIfInBounds_toArray, List.set_cons_zero, List.set_cons_succ]
    refine tkV 2 (v := ?_) (hw := ?_) (h := ?_)
    rotate_left
    · intro W hSW
      go_simp
      try with_reducible rfl
    try simp only [Act.put, List.setIfInBounds_toArray, List.set_cons_zero, List.set_cons_succ]
    refine tkY 3 (hy := (yieldsIf_load_mid (by rfl) 25 _ rfl p0 21 rfl (whoL c.a) _ (fun W hSW => hSW.author) Tryz.underlying25 rfl (info_rwhoL c.a))) (h := ?_)
    try simp only [Act.put, List.setIfInBounds_toArray, List.set_cons_zero, List.set_cons_succ]
    refine tkV 5 (v := ?_) (hw := ?_) (h := ?_)
    rotate_left
    · intro W hSW
      go_simp
      try with_reducible rfl
    try simp only [Act.put, List.setIfInBounds_toArray, List.set_cons_zero, List.set_cons_succ]
    refine tkY 6 (hy := (yieldsIf_load_mid (by rfl) 25 _ rfl p0 25 rfl (whoL c.c) _ (fun W hSW => hSW.committer) Tryz.underlying25 rfl (info_rwhoL c.c))) (h := ?_)
    try simp only [Act.put, List.setIfInBounds_toArray, List.set_cons_zero, List.set_cons_succ]
    refine tkV 8 (v := ?_) (hw := ?_) (h := ?_)
    rotate_left
    · intro W hSW
      go_simp
      try with_reducible rfl
    try simp only [Act.put, List.setIfInBounds_toArray, List.set_cons_zero, List.set_cons_succ]
    refine tkY 9 (hy := (yieldsIf_load_str (by rfl) 9 _ rfl p0 30 rfl c.m (fun W hSW => hSW.msg) Tryz.underlying9)) (h := ?_)
    try simp only [Act.put, List.setIfInBounds_toArray, List.set_cons_zero, List.set_cons_succ]
    refine tkV 10 (v := ?_) (hw := ?_) (h := ?_)
    rotate_left
    · intro W hSW
      go_simp
      try with_reducible rfl
    try simp only [Act.put, List.setIfInBounds_toArray, List.set_cons_zero, List.set_cons_succ]
    refine tkY 11 (hy := (yieldsIf_load_str (by rfl) 9 _ rfl p0 30 rfl c.m (fun W hSW => hSW.msg) Tryz.underlying9)) (h := ?_)
    try simp only [Act.put, List.setIfInBounds_toArray, List.set_cons_zero, List.set_cons_succ]
    refine tkV 12 (v := ?_) (hw := ?_) (h := ?_)
    rotate_left
    · intro W hSW
      go_simp
      try with_reducible rfl
    try simp only [Act.put, List.setIfInBounds_toArray, List.set_cons_zero, List.set_cons_succ]
    refine tkV 13 (v := ?_) (hw := ?_) (h := ?_)
    rotate_left
    · intro W hSW
      go_simp
      try with_reducible rfl
    try simp only [Act.put, List.setIfInBounds_toArray, List.set_cons_zero, List.set_cons_succ]
    refine tkV 14 (v := ?_) (hw := ?_) (h := ?_)
    rotate_left
    · intro W hSW
      go_simp
      try with_reducible rfl
    try simp only [Act.put, List.setIfInBounds_toArray, List.set_cons_zero, List.set_cons_succ]
    try rw [show (whoL c.a).toArray = whoA c.a from rfl, show (whoL c.c).toArray = whoA c.c from rfl]
    refine wpAnyH_ready (rs := [4, 16]) (by kernel_rfl) (by simp) ?_
    refine AllReadyH.cons (by simp only [List.getElem?_toArray, List.getElem?_cons_succ, List.getElem?_cons_zero]; rfl) (fun K hK => ?_) (AllReadyH.cons (by simp only [List.getElem?_toArray, List.getElem?_cons_succ, List.getElem?_cons_zero]; rfl) (fun K hK => ?_) AllReadyH.nil)
    · go_simp
      refine (whoin_any c.a _).mono ?_
      rintro e v1 ⟨rfl, hb⟩
      have hv : Below w0.heap.size w0 v1 := ((Below.refl _ _).drew).trans hb
      have HV1 := Lib.hid hv
      clear hb hv
      go_wp2_with fail
      refine hK.out _ _ (HRW0.out.below HNE0.out.2.1 HV1.out) (fun hHeld2 => ?_)
      clear hK K hHeld
      have hHeld := hHeld2
      clear hHeld2
      try simp only [Act.put, List.setIfInBounds_toArray, List.set_cons_zero, List.set_cons_succ]
      refine wpAnyH_ready (rs := [7, 16]) (by kernel_rfl) (by simp) ?_
      refine AllReadyH.cons (by simp only [List.getElem?_toArray, List.getElem?_cons_succ, List.getElem?_cons_zero]; rfl) (fun K hK => ?_) (AllReadyH.cons (by simp only [List.getElem?_toArray, List.getElem?_cons_succ, List.getElem?_cons_zero]; rfl) (fun K hK => ?_) AllReadyH.nil)
      · go_simp
        refine (whoin_any c.c _).mono ?_
        rintro e v2 ⟨rfl, hb⟩
        have hv : Below w0.heap.size w0 v2 := (HV1.out).trans (hb.mono (HV1.out).size)
        have HV2 := Lib.hid hv
        try have HGC := Lib.hid ((hb.block _ (Array.getElem?_eq_some_iff.1 HGB.out).1).trans HGB.out)
        clear hb hv
        go_wp2_with fail
        refine hK.out _ _ (HRW0.out.below HNE0.out.2.1 HV2.out) (fun hHeld2 => ?_)
        clear hK K hHeld
        have hHeld := hHeld2
        clear hHeld2
        try simp only [Act.put, List.setIfInBounds_toArray, List.set_cons_zero, List.set_cons_succ]
        refine tkY 15 (hy := (yieldsIf_build (by rfl) _ _ rfl #[(0, .agg (V8 (fewCC c).tr)), (2, .agg (whoA (fewCC c).a)), (3, .agg (whoA (fewCC c).c)), (5, .string (fewCC c).m)] (map_four' _ _ _ _ _ _ _ _ _ rfl rfl rfl rfl) (.agg (coA (fewCC c) (.slice none 0 0) (.slice none 0 0))) (build_co4 (fewCC c) H20.out))) (h := ?_)
        try simp only [Act.put, List.setIfInBounds_toArray, List.set_cons_zero, List.set_cons_succ]
        refine wpAnyH_ready (rs := [16]) (by kernel_rfl) (by simp) ?_
        refine AllReadyH.cons (by simp only [List.getElem?_toArray, List.getElem?_cons_succ, List.getElem?_cons_zero]; rfl) (fun K hK => ?_) AllReadyH.nil
        go_simp
        have HGA : Hid ((v2.alloc (.cells (coA cz (.slice none 0 0) (.slice none 0 0)) 34)).heap[v2.heap.size]? = some (.cells (coA cz (.slice none 0 0) (.slice none 0 0)) 34 (0, 0))) := heap_alloc_new _ _
        have HVA : Hid (Below w0.heap.size w0 (v2.alloc (.cells (coA cz (.slice none 0 0) (.slice none 0 0)) 34))) := HV2.out.alloc HV2.out.size _
        refine hK.out _ _ (HRW0.out.below HNE0.out.2.1 HVA.out) (fun hHeld2 => ?_)
        clear hK K hHeld
        have hHeld := hHeld2
        clear hHeld2
        try simp only [Act.put, List.setIfInBounds_toArray, List.set_cons_zero, List.set_cons_succ]
        have HRS : Hid (CoRow ((v2.alloc (.cells (coA cz (.slice none 0 0) (.slice none 0 0)) 34)).setRow v2.heap.size (coA (fewCC c) (.slice none 0 0) (.slice none 0 0))) p0 c (.slice pa n pc) (.slice xa m xc)) := CoRow.of ((setRow_other _ _ _ _ (by have h1 := HV2.out.size; have h2 := HNE0.out.2.1; show p0 ≠ v2.heap.size; exact Nat.ne_of_lt (Nat.lt_of_lt_of_le h2 h1))).trans ((HW0P.out _ HVA.out))) H20.out
        have HSTW : Hid (Below w0.heap.size w0 ((v2.alloc (.cells (coA cz (.slice none 0 0) (.slice none 0 0)) 34)).setRow v2.heap.size (coA (fewCC c) (.slice none 0 0) (.slice none 0 0)))) := below_setRow HVA.out HV2.out.size _
        have HSTR : Hid (((v2.alloc (.cells (coA cz (.slice none 0 0) (.slice none 0 0)) 34)).setRow v2.heap.size (coA (fewCC c) (.slice none 0 0) (.slice none 0 0))).heap[v2.heap.size]? = some (.cells (coA (fewCC c) (.slice none 0 0) (.slice none 0 0)) 34 (0, 0))) := setRow_heap _ _ _ _ _ _ HGA.out
        have HSTL : Hid (w0.heap.size ≤ v2.heap.size) := HV2.out.size
        refine wpAnyH_ready (rs := [17]) (by kernel_rfl) (by simp) ?_
        refine AllReadyH.cons (by simp only [List.getElem?_toArray, List.getElem?_cons_succ, List.getElem?_cons_zero]; rfl) (fun K hK => ?_) AllReadyH.nil
        refine step_store_row (by rfl) 34 _ _ rfl (v2.heap.size) (coA (fewCC c) (.slice none 0 0) (.slice none 0 0)) rfl rfl 34 (coA cz (.slice none 0 0) (.slice none 0 0)) HGA.out (info_coA (fewCC c) _ _ H20.out) (by rw [coA_size _ _ _ cz_20, coA_size (fewCC c) _ _ H20.out]) (coA_one _ _ _ rfl rfl) ?_
        refine hK.out _ _ (HRS.out) (fun hHeld2 => ?_)
        clear hK K hHeld
        have hHeld := hHeld2
        clear hHeld2
        try simp only [Act.put, List.setIfInBounds_toArray, List.set_cons_zero, List.set_cons_succ]
        refine wpAnyH_done (by kernel_rfl) ?_ _
        refine NoPanic.normal ?_
        obtain ⟨ob, hob⟩ : ∃ x, v2.heap.size = x := ⟨_, rfl⟩
        rw [hob] at HSTL HSTR HSTW
        rw [hob]
        exact ⟨ob, rfl, HSTL.out, HSTR.out, HSTW.out⟩
      · go_simp
        have HGA : Hid ((v1.alloc (.cells (coA cz (.slice none 0 0) (.slice none 0 0)) 34)).heap[v1.heap.size]? = some (.cells (coA cz (.slice none 0 0) (.slice none 0 0)) 34 (0, 0))) := heap_alloc_new _ _
        have HVA : Hid (Below w0.heap.size w0 (v1.alloc (.cells (coA cz (.slice none 0 0) (.slice none 0 0)) 34))) := HV1.out.alloc HV1.out.size _
        refine hK.out _ _ (HRW0.out.below HNE0.out.2.1 HVA.out) (fun hHeld2 => ?_)
        clear hK K hHeld
        have hHeld := hHeld2
        clear hHeld2
        try simp only [Act.put, List.setIfInBounds_toArray, List.set_cons_zero, List.set_cons_succ]
        refine wpAnyH_ready (rs := [7]) (by kernel_rfl) (by simp) ?_
        refine AllReadyH.cons (by simp only [List.getElem?_toArray, List.getElem?_cons_succ, List.getElem?_cons_zero]; rfl) (fun K hK => ?_) AllReadyH.nil
        go_simp
        refine (whoin_any c.c _).mono ?_
        rintro e v2 ⟨rfl, hb⟩
        have hv : Below w0.heap.size w0 v2 := (HVA.out).trans (hb.mono (HVA.out).size)
        have HV2 := Lib.hid hv
        have HGB := Lib.hid ((hb.block _ (Array.getElem?_eq_some_iff.1 HGA.out).1).trans HGA.out)
        clear hb hv
        go_wp2_with fail
        refine hK.out _ _ (HRW0.out.below HNE0.out.2.1 HV2.out) (fun hHeld2 => ?_)
        clear hK K hHeld
        have hHeld := hHeld2
        clear hHeld2
        try simp only [Act.put, List.setIfInBounds_toArray, List.set_cons_zero, List.set_cons_succ]
        refine tkY 15 (hy := (yieldsIf_build (by rfl) _ _ rfl #[(0, .agg (V8 (fewCC c).tr)), (2, .agg (whoA (fewCC c).a)), (3, .agg (whoA (fewCC c).c)), (5, .string (fewCC c).m)] (map_four' _ _ _ _ _ _ _ _ _ rfl rfl rfl rfl) (.agg (coA (fewCC c) (.slice none 0 0) (.slice none 0 0))) (build_co4 (fewCC c) H20.out))) (h := ?_)
        try simp only [Act.put, List.setIfInBounds_toArray, List.set_cons_zero, List.set_cons_succ]
        have HRS : Hid (CoRow ((v2).setRow v1.heap.size (coA (fewCC c) (.slice none 0 0) (.slice none 0 0))) p0 c (.slice pa n pc) (.slice xa m xc)) := CoRow.of ((setRow_other _ _ _ _ (by have h1 := HV1.out.size; have h2 := HNE0.out.2.1; show p0 ≠ v1.heap.size; exact Nat.ne_of_lt (Nat.lt_of_lt_of_le h2 h1))).trans ((HW0P.out _ HV2.out))) H20.out
        have HSTW : Hid (Below w0.heap.size w0 ((v2).setRow v1.heap.size (coA (fewCC c) (.slice none 0 0) (.slice none 0 0)))) := below_setRow HV2.out HV1.out.size _
        have HSTR : Hid (((v2).setRow v1.heap.size (coA (fewCC c) (.slice none 0 0) (.slice none 0 0))).heap[v1.heap.size]? = some (.cells (coA (fewCC c) (.slice none 0 0) (.slice none 0 0)) 34 (0, 0))) := setRow_heap _ _ _ _ _ _ HGB.out
        have HSTL : Hid (w0.heap.size ≤ v1.heap.size) := HV1.out.size
        refine wpAnyH_ready (rs := [17]) (by kernel_rfl) (by simp) ?_
        refine AllReadyH.cons (by simp only [List.getElem?_toArray, List.getElem?_cons_succ, List.getElem?_cons_zero]; rfl) (fun K hK => ?_) AllReadyH.nil
        refine step_store_row (by rfl) 34 _ _ rfl (v1.heap.size) (coA (fewCC c) (.slice none 0 0) (.slice none 0 0)) rfl rfl 34 (coA cz (.slice none 0 0) (.slice none 0 0)) HGB.out (info_coA (fewCC c) _ _ H20.out) (by rw [coA_size _ _ _ cz_20, coA_size (fewCC c) _ _ H20.out]) (coA_one _ _ _ rfl rfl) ?_
        refine hK.out _ _ (HRS.out) (fun hHeld2 => ?_)
        clear hK K hHeld
        have hHeld := hHeld2
        clear hHeld2
        try simp only [Act.put, List.setIfInBounds_toArray, List.set_cons_zero, List.set_cons_succ]
        refine wpAnyH_done (by kernel_rfl) ?_ _
        refine NoPanic.normal ?_
        obtain ⟨ob, hob⟩ : ∃ x, v1.heap.size = x := ⟨_, rfl⟩
        rw [hob] at HSTL HSTR HSTW
        rw [hob]
        exact ⟨ob, rfl, HSTL.out, HSTR.out, HSTW.out⟩
    · go_simp
      try rw [show (w0.alloc (.cells (coA cz (.slice none 0 0) (.slice none 0 0)) 34)).drew = w0.drew.alloc (.cells (coA cz (.slice none 0 0) (.slice none 0 0)) 34) from rfl]
      have HGA : Hid ((w0.drew.alloc (.cells (coA cz (.slice none 0 0) (.slice none 0 0)) 34)).heap[w0.heap.size]? = some (.cells (coA cz (.slice none 0 0) (.slice none 0 0)) 34 (0, 0))) := heap_alloc_new _ _
      have HVA : Hid (Below w0.heap.size w0 (w0.drew.alloc (.cells (coA cz (.slice none 0 0) (.slice none 0 0)) 34))) := HVD.out.alloc HVD.out.size _
      refine hK.out _ _ (HRW0.out.below HNE0.out.2.1 HVA.out) (fun hHeld2 => ?_)
      clear hK K hHeld
      have hHeld := hHeld2
      clear hHeld2
      try simp only [Act.put, List.setIfInBounds_toArray, List.set_cons_zero, List.set_cons_succ]
      refine wpAnyH_ready (rs := [4]) (by kernel_rfl) (by simp) ?_
      refine AllReadyH.cons (by simp only [List.getElem?_toArray, List.getElem?_cons_succ, List.getElem?_cons_zero]; rfl) (fun K hK => ?_) AllReadyH.nil
      go_simp
      try rw [show (w0.alloc (.cells (coA cz (.slice none 0 0) (.slice none 0 0)) 34)).drew = w0.drew.alloc (.cells (coA cz (.slice none 0 0) (.slice none 0 0)) 34) from rfl]
      refine (whoin_any c.a _).mono ?_
      rintro e v1 ⟨rfl, hb⟩
      have hv : Below w0.heap.size w0 v1 := (HVA.out).trans (hb.mono (HVA.out).size)
      have HV1 := Lib.hid hv
      have HGB := Lib.hid ((hb.block _ (Array.getElem?_eq_some_iff.1 HGA.out).1).trans HGA.out)
      clear hb hv
      go_wp2_with fail
      refine hK.out _ _ (HRW0.out.below HNE0.out.2.1 HV1.out) (fun hHeld2 => ?_)
      clear hK K hHeld
      have hHeld := hHeld2
      clear hHeld2
      try simp only [Act.put, List.setIfInBounds_toArray, List.set_cons_zero, List.set_cons_succ]
      refine wpAnyH_ready (rs := [7]) (by kernel_rfl) (by simp) ?_
      refine AllReadyH.cons (by simp only [List.getElem?_toArray, List.getElem?_cons_succ, List.getElem?_cons_zero]; rfl) (fun K hK => ?_) AllReadyH.nil
      go_simp
      refine (whoin_any c.c _).mono ?_
      rintro e v2 ⟨rfl, hb⟩
      have hv : Below w0.heap.size w0 v2 := (HV1.out).trans (hb.mono (HV1.out).size)
      have HV2 := Lib.hid hv
      try have HGC := Lib.hid ((hb.block _ (Array.getElem?_eq_some_iff.1 HGB.out).1).trans HGB.out)
      clear hb hv
      go_wp2_with fail
      refine hK.out _ _ (HRW0.out.below HNE0.out.2.1 HV2.out) (fun hHeld2 => ?_)
      clear hK K hHeld
      have hHeld := hHeld2
      clear hHeld2
      try simp only [Act.put, List.setIfInBounds_toArray, List.set_cons_zero, List.set_cons_succ]
      refine tkY 15 (hy := (yieldsIf_build (by rfl) _ _ rfl #[(0, .agg (V8 (fewCC c).tr)), (2, .agg (whoA (fewCC c).a)), (3, .agg (whoA (fewCC c).c)), (5, .string (fewCC c).m)] (map_four' _ _ _ _ _ _ _ _ _ rfl rfl rfl rfl) (.agg (coA (fewCC c) (.slice none 0 0) (.slice none 0 0))) (build_co4 (fewCC c) H20.out))) (h := ?_)
      try simp only [Act.put, List.setIfInBounds_toArray, List.set_cons_zero, List.set_cons_succ]
      have HRS : Hid (CoRow ((v2).setRow w0.heap.size (coA (fewCC c) (.slice none 0 0) (.slice none 0 0))) p0 c (.slice pa n pc) (.slice xa m xc)) := CoRow.of ((setRow_other _ _ _ _ (by have h1 := HVD.out.size; have h2 := HNE0.out.2.1; show p0 ≠ w0.heap.size; exact Nat.ne_of_lt (Nat.lt_of_lt_of_le h2 h1))).trans ((HW0P.out _ HV2.out))) H20.out
      have HSTW : Hid (Below w0.heap.size w0 ((v2).setRow w0.heap.size (coA (fewCC c) (.slice none 0 0) (.slice none 0 0)))) := below_setRow HV2.out HVD.out.size _
      have HSTR : Hid (((v2).setRow w0.heap.size (coA (fewCC c) (.slice none 0 0) (.slice none 0 0))).heap[w0.heap.size]? = some (.cells (coA (fewCC c) (.slice none 0 0) (.slice none 0 0)) 34 (0, 0))) := setRow_heap _ _ _ _ _ _ HGC.out
      have HSTL : Hid (w0.heap.size ≤ w0.heap.size) := HVD.out.size
      refine wpAnyH_ready (rs := [17]) (by kernel_rfl) (by simp) ?_
      refine AllReadyH.cons (by simp only [List.getElem?_toArray, List.getElem?_cons_succ, List.getElem?_cons_zero]; rfl) (fun K hK => ?_) AllReadyH.nil
      refine step_store_row (by rfl) 34 _ _ rfl (w0.heap.size) (coA (fewCC c) (.slice none 0 0) (.slice none 0 0)) rfl rfl 34 (coA cz (.slice none 0 0) (.slice none 0 0)) HGC.out (info_coA (fewCC c) _ _ H20.out) (by rw [coA_size _ _ _ cz_20, coA_size (fewCC c) _ _ H20.out]) (coA_one _ _ _ rfl rfl) ?_
      refine hK.out _ _ (HRS.out) (fun hHeld2 => ?_)
      clear hK K hHeld
      have hHeld := hHeld2
      clear hHeld2
      try simp only [Act.put, List.setIfInBounds_toArray, List.set_cons_zero, List.set_cons_succ]
      refine wpAnyH_done (by kernel_rfl) ?_ _
      refine NoPanic.normal ?_
      obtain ⟨ob, hob⟩ : ∃ x, w0.heap.size = x := ⟨_, rfl⟩
      rw [hob] at HSTL HSTR HSTW
      rw [hob]
      exact ⟨ob, rfl, HSTL.out, HSTR.out, HSTW.out⟩
  rintro ob w1 ⟨hob, hg1, hb1⟩
  have HG2 := Lib.hid hg1
  have HP2 : Hid (w1.heap[p0]? = some (.cells (coA c (.slice pa n pc) (.slice xa m xc)) 28 (0, 0))) := HW0P.out w1 hb1
  have HR2 : Hid (w1.heap[rb]? = some (.cells (coA cz (.slice none 0 0) (.slice none 0 0)) 34 (0, 0))) := (hb1.block rb HNE0.out.2.2.1).trans HR0.out
  have HB2 : Hid (Below w.heap.size w w1) := HB0.out.trans (hb1.mono HB0.out.size)
  have HN1 : Hid (p0 ≠ ob ∧ rb ≠ ob ∧ p0 ≠ rb ∧ w.heap.size ≤ p0 ∧ w.heap.size ≤ rb ∧ w.heap.size ≤ ob) := by have := HNE0.out; have := HB0.out.size; show _ ∧ _; omega
  clear hob hg1 hb1 HRW0 HRWD HVD HW0P hzr HP0 HR0 HB0 HNE0 hmm hsm
  have HPL : Hid (p0 < w1.heap.size) := (Array.getElem?_eq_some_iff.1 HP2.out).1
  have HOB : Hid (ob < w1.heap.size) := (Array.getElem?_eq_some_iff.1 HG2.out).1
  have HRL : Hid (rb < w1.heap.size) := (Array.getElem?_eq_some_iff.1 HR2.out).1
  have HPO : Hid (p0 ≠ ob) := HN1.out.1
  have HRW := Lib.hid (CoRow.of HP2.out H20.out)
  have HP20B : Hid (w1.cell? ⟨p0, 20, none⟩ = some (.slice pa n pc)) := HRW.out.pars
  have HPC : Hid (∀ W, FrR ob w1 W → W.cell? ⟨p0, 20, none⟩ = some (.slice pa n pc)) := fun W hW => (hW.cell HPL.out HPO.out 20).trans HP20B.out
  go_wp2_with fail
  go_loopw [4] (fun i wr => ∃ (k : Nat) (oa : Option Addr) (oc : Nat), k ≤ 20 ∧ k ≤ n ∧ i = .int .i64 (k : Int) ∧ OwnG 20 idE 29 wr w1.heap.size (.slice oa k oc) (c.ps.take k) ∧ wr.heap[ob]? = some (.cells (coA (fewCC c) (.slice oa k oc) (.slice none 0 0)) 34 (0, 0)) ∧ FrR ob w1 wr) (fun i _ => n - (intOf i).toNat)
  case atStart => exact ⟨0, none, 0, Nat.zero_le _, Nat.zero_le _, rfl, by rw [List.take_zero]; exact OwnG.nil _ _ _, HG2.out, FrR.refl _ _⟩
  case round =>
    rename World => wr
    obtain ⟨k, oa, oc, hk, hkn, rfl, ho, hr, hf⟩ := hrel
    have HO := Lib.hid ho
    have HR := Lib.hid hr
    have HF := Lib.hid hf
    have WK := Lib.hid (next_int k (by omega))
    have HQ3 := Lib.hid (HPC.out wr HF.out)
    have HTL : Hid ((c.ps.take k).length = k) := by show _ = _; rw [List.length_take, HN.out]; omega
    clear ho hr hf HG2
    by_cases h1 : k = n
    · subst h1
      have HEY : Hid (c.ps.take k = (fewCC c).ps) := by show _ = List.take _ _; rw [List.take_of_length_le (by rw [HN.out]; omega), List.take_of_length_le (by rw [HN.out]; omega)]
      have HPL_ : Hid ((fewCC c).ps.length = k) := by rw [← HEY.out]; exact HTL.out
      rw [HEY.out] at HO
      have hp20 := HQ3.out
      clear hk hkn HEY HTL
      obtain ⟨w2, hw2⟩ : ∃ W, wr = W := ⟨_, rfl⟩
      rw [hw2] at HO HR HF HQ3 hp20 ⊢
      clear hw2 HPC
      have HF2 := HF
      have HPL2 : Hid (p0 < w2.heap.size) := Nat.lt_of_lt_of_le HPL.out HF.out.size
      have HRL2 : Hid (rb < w2.heap.size) := Nat.lt_of_lt_of_le HRL.out HF.out.size
      have HR3 : Hid (w2.heap[rb]? = some (.cells (coA cz (.slice none 0 0) (.slice none 0 0)) 34 (0, 0))) := (HF.out.block rb HRL.out HN1.out.2.1).trans HR2.out
      have HOW : Hid (∀ W, FrR ob w2 W → OwnG 20 idE 29 W w1.heap.size (.slice oa k oc) (fewCC c).ps) := fun W hW => HO.out.move fun g hg hgl => hW.block g hgl (by have := HOB.out; omega)
      have HP29B : Hid (w2.cell? ⟨p0, 29, none⟩ = some (.slice xa m xc)) := (HF.out.cell HPL.out HPO.out 29).trans HRW.out.exts
      have HPC : Hid (∀ W, FrR ob w2 W → W.cell? ⟨p0, 29, none⟩ = some (.slice xa m xc)) := fun W hW => (hW.cell HPL2.out HPO.out 29).trans HP29B.out
      have HBW2 : Hid (Below w.heap.size w w2) := HB2.out.trans (HF.out.below HN1.out.2.2.2.2.2 HB2.out.size)
      have HRI := HR
      go_wp2_with fail
      go_loopw [5] (fun i wt => ∃ (j : Nat) (qa : Option Addr) (qc : Nat), j ≤ 20 ∧ j ≤ m ∧ i = .int .i64 (j : Int) ∧ OwnG 2 extE 69 wt w2.heap.size (.slice qa j qc) ((c.xs.take j).map fewXX) ∧ wt.heap[ob]? = some (.cells (coA (fewCC c) (.slice oa k oc) (.slice qa j qc)) 34 (0, 0)) ∧ FrR ob w2 wt) (fun i _ => m - (intOf i).toNat)
      case atStart => exact ⟨0, none, 0, Nat.zero_le _, Nat.zero_le _, rfl, by rw [List.take_zero]; exact OwnG.nil _ _ _, HRI.out, FrR.refl _ _⟩
      case round =>
        rename World => wt
        obtain ⟨j, qa, qc, hj, hjm, rfl, hq, ht, hg⟩ := hrel
        clear HO HR HF HRI WK
        have HO := Lib.hid hq
        have HR := Lib.hid ht
        have HF := Lib.hid hg
        have WK := Lib.hid (next_int j (by omega))
        have HQ3 := Lib.hid (HPC.out wt HF.out)
        clear hq ht hg
        by_cases h1 : j = m
        · subst h1
          have HEX : Hid ((c.xs.take j).map fewXX = (fewCC c).xs) := by show _ = List.map _ _; rw [List.take_of_length_le (by rw [HM.out]; omega), List.take_of_length_le (by rw [HM.out]; omega)]
          have HXL : Hid ((fewCC c).xs.length = j) := by rw [← HEX.out]; show _ = _; rw [List.length_map, List.length_take, HM.out]; omega
          rw [HEX.out] at HO
          have hp29 := HQ3.out
          clear hj hjm HEX
          have HCL : Hid ((coL (fewCC c) (.slice oa k oc) (.slice qa j qc)).toArray = coV (fewCC c) oa oc qa qc) := by show _ = _; unfold coV; rw [HPL_.out, HXL.out]; rfl
          have HRF : Hid (wt.heap[rb]? = some (.cells (coA cz (.slice none 0 0) (.slice none 0 0)) 34 (0, 0))) := (HF.out.block rb HRL2.out HN1.out.2.1).trans HR3.out
          have HBF : Hid (Below w.heap.size w wt) := HBW2.out.trans (HF.out.below HN1.out.2.2.2.2.2 HBW2.out.size)
          have HOF := Lib.hid (HOW.out wt HF.out)
          have HSZ : Hid ((coV (fewCC c) oa oc qa qc).size = 31) := coA_size _ _ _ H20.out
          go_wp2_with (first
            | (refine wpList_load_mid rfl 34 _ rfl ob 0 rfl (coL (fewCC c) (.slice oa k oc) (.slice qa j qc)) _ (CoRow.of HR.out H20.out).cells Tryz.underlying34 rfl (info_co (fewCC c) _ _ H20.out) ?_
               rw [HCL.out])
            | refine wpList_store_row rfl 34 _ _ rfl rb (coV (fewCC c) oa oc qa qc) rfl rfl 34 (coA cz (.slice none 0 0) (.slice none 0 0)) HRF.out (info_coA (fewCC c) _ _ H20.out) (by rw [HSZ.out, coA_size _ _ _ cz_20]) (coA_one _ _ _ rfl rfl) ?_)
          refine bodyPost_ret (results_cell_row Tryz.results9 _ _ rb 34 (coV (fewCC c) oa oc qa qc) (0, 0) _ rfl (setRow_heap _ _ _ _ _ _ HRF.out) Tryz.underlying34 rfl (info_coA (fewCC c) _ _ H20.out)) rfl ?_
          refine ⟨⟨oa, oc, qa, qc, rfl, H20.out, HBYT.out, fun p hp => HIDS.out p (List.mem_of_mem_take hp), rowat_setRow (HOF.out.fs idE_len).1 (fun b' off' he _ => by have := HOF.out.base he; have := HRL.out; omega), rowat_setRow (HO.out.fs extE_len).1 (fun b' off' he _ => by have := HO.out.base he; have := HRL2.out; omega)⟩, below_setRow HBF.out HN1.out.2.2.2.2.1 _⟩
        · have hjl : j < m := by omega
          have hji : (j : Int) < (m : Int) := by omega
          by_cases h2 : j = 20
          · subst h2
            have HEX : Hid ((c.xs.take 20).map fewXX = (fewCC c).xs) := by show _ = List.map _ _; rfl
            have HXL : Hid ((fewCC c).xs.length = 20) := by rw [← HEX.out]; show _ = _; rw [List.length_map, List.length_take, HM.out]; omega
            rw [HEX.out] at HO
            have hp29 := HQ3.out
            clear hj hjm HEX
            have HCL : Hid ((coL (fewCC c) (.slice oa k oc) (.slice qa 20 qc)).toArray = coV (fewCC c) oa oc qa qc) := by show _ = _; unfold coV; rw [HPL_.out, HXL.out]; rfl
            have HRF : Hid (wt.heap[rb]? = some (.cells (coA cz (.slice none 0 0) (.slice none 0 0)) 34 (0, 0))) := (HF.out.block rb HRL2.out HN1.out.2.1).trans HR3.out
            have HBF : Hid (Below w.heap.size w wt) := HBW2.out.trans (HF.out.below HN1.out.2.2.2.2.2 HBW2.out.size)
            have HOF := Lib.hid (HOW.out wt HF.out)
            have HSZ : Hid ((coV (fewCC c) oa oc qa qc).size = 31) := coA_size _ _ _ H20.out
            go_wp2_with (first
              | (refine wpList_load_mid rfl 34 _ rfl ob 0 rfl (coL (fewCC c) (.slice oa k oc) (.slice qa 20 qc)) _ (CoRow.of HR.out H20.out).cells Tryz.underlying34 rfl (info_co (fewCC c) _ _ H20.out) ?_
                 rw [HCL.out])
              | refine wpList_store_row rfl 34 _ _ rfl rb (coV (fewCC c) oa oc qa qc) rfl rfl 34 (coA cz (.slice none 0 0) (.slice none 0 0)) HRF.out (info_coA (fewCC c) _ _ H20.out) (by rw [HSZ.out, coA_size _ _ _ cz_20]) (coA_one _ _ _ rfl rfl) ?_)
            refine bodyPost_ret (results_cell_row Tryz.results9 _ _ rb 34 (coV (fewCC c) oa oc qa qc) (0, 0) _ rfl (setRow_heap _ _ _ _ _ _ HRF.out) Tryz.underlying34 rfl (info_coA (fewCC c) _ _ H20.out)) rfl ?_
            refine ⟨⟨oa, oc, qa, qc, rfl, H20.out, HBYT.out, fun p hp => HIDS.out p (List.mem_of_mem_take hp), rowat_setRow (HOF.out.fs idE_len).1 (fun b' off' he _ => by have := HOF.out.base he; have := HRL.out; omega), rowat_setRow (HO.out.fs extE_len).1 (fun b' off' he _ => by have := HO.out.base he; have := HRL2.out; omega)⟩, below_setRow HBF.out HN1.out.2.2.2.2.1 _⟩
          · have HKN : Hid (j + 1 ≤ m) := by show _ ≤ _; omega
            have HK20 : Hid (j + 1 ≤ 20) := by show _ ≤ _; omega
            have hj3i : (j : Int) < 20 := by omega
            rcases HAX.out with h0 | ⟨b, off, rfl, hbl, hc⟩
            · rw [HM.out] at h0; omega
            obtain ⟨x, hx⟩ : ∃ x, c.xs[j]? = some x := ⟨_, List.getElem?_eq_getElem (by rw [HM.out]; exact hjl)⟩
            have HRX : Hid (wt.rangeAt b (off + j * 2) (extE x)) := HF.out.range (by have := HBW2.out.size; omega) (by have := HN1.out; omega) (range_below (hc j x hx) HBW2.out hbl)
            have HT : Hid ((c.xs.take (j + 1)).map fewXX = (c.xs.take j).map fewXX ++ [fewXX x]) := by show _ = _; rw [take_snoc hx, List.map_append]; rfl
            have HTL : Hid (((c.xs.take j).map fewXX).length = j) := by show _ = _; rw [List.length_map, List.length_take, HM.out]; omega
            have hze := zero_rcext
            have HZX : Hid ((wt.alloc (.cells #[.string ⟨#[]⟩, .string ⟨#[]⟩] 65)).heap[wt.heap.size]? = some (.cells #[.string ⟨#[]⟩, .string ⟨#[]⟩] 65 (0, 0))) := heap_alloc_new _ _
            have HXA : Hid (((wt.alloc (.cells #[.string ⟨#[]⟩, .string ⟨#[]⟩] 65)).setRow wt.heap.size (extE x).toArray).heap[wt.heap.size]? = some (.cells (extE x).toArray 65 (0, 0))) := setRow_heap _ _ _ _ _ _ HZX.out
            have HBS : Hid (Below wt.heap.size wt ((wt.alloc (.cells #[.string ⟨#[]⟩, .string ⟨#[]⟩] 65)).setRow wt.heap.size (extE x).toArray)) := below_setRow ((Below.refl _ _).alloc (Nat.le_refl _) _) (Nat.le_refl _) _
            have hm1 : min (x.1.size : Int) 200 = ((min x.1.size 200 : Nat) : Int) := by omega
            have hm2 : min (x.2.size : Int) 200 = ((min x.2.size 200 : Nat) : Int) := by omega
            have hs1 : ∀ W, (Instr.slice 9 (.string x.1) none (some (.int .i64 ((min x.1.size 200 : Nat) : Int))) none).run Tryz.prog W = .ok (.string (fewXX x).1) W := fun W => slice_front x.1 (min x.1.size 200) (by omega) _ rfl W
            have hs2 : ∀ W, (Instr.slice 9 (.string x.2) none (some (.int .i64 ((min x.2.size 200 : Nat) : Int))) none).run Tryz.prog W = .ok (.string (fewXX x).2) W := fun W => slice_front x.2 (min x.2.size 200) (by omega) _ rfl W
            have hp29 := HQ3.out
            clear hx hbl hc hj hjm
            go_wp2_with (first
              | refine wpList_load_mid rfl 65 _ rfl b (off + j * 2) rfl (extE x) _ HRX.out Tryz.underlying65 rfl (info_rcext x) ?_
              | refine wpList_store_row rfl 65 _ _ rfl wt.heap.size (extE x).toArray rfl rfl 65 #[.string ⟨#[]⟩, .string ⟨#[]⟩] HZX.out (info_rcextA x) rfl (extA_one x) ?_)
            obtain ⟨w3, hw3⟩ : ∃ W, (wt.alloc (.cells #[.string ⟨#[]⟩, .string ⟨#[]⟩] 65)).setRow wt.heap.size (extE x).toArray = W := ⟨_, rfl⟩
            rw [hw3] at HXA HBS ⊢
            clear hw3 HZX hze HRX HQ3 hp29
            have HFT := HF
            have HRT := HR
            have HOT := HO
            clear HF HR HO
            have HF : Hid (FrR ob w2 w3) := HFT.out.trans (FrR.of HBS.out)
            have HR : Hid (w3.heap[ob]? = some (.cells (coA (fewCC c) (.slice oa k oc) (.slice qa j qc)) 34 (0, 0))) := (HBS.out.block ob (Array.getElem?_eq_some_iff.1 HRT.out).1).trans HRT.out
            have HO : Hid (OwnG 2 extE 69 w3 w2.heap.size (.slice qa j qc) ((c.xs.take j).map fewXX)) := HOT.out.below HBS.out
            obtain ⟨bx, hbx⟩ : ∃ b, wt.heap.size = b := ⟨_, rfl⟩
            have HBX : Hid (∀ g, (Value.slice qa j qc).ownBlock = some g → g ≠ bx) := fun g hg => by have := (HOT.out.lt hg).2; omega
            have HNX : Hid (bx ≠ ob) := by have := (Array.getElem?_eq_some_iff.1 HRT.out).1; show _ ≠ _; omega
            rw [hbx] at HXA ⊢
            clear hbx HBS HFT HRT HOT
            have HQ3 : Hid (w3.cell? ⟨bx, 0, none⟩ = some (.string x.1)) := by show _ = _; rw [cell_of_row _ _ _ _ _ _ HXA.out]; rfl
            have HQ4 : Hid (w3.cell? ⟨bx, 1, none⟩ = some (.string x.2)) := by show _ = _; rw [cell_of_row _ _ _ _ _ _ HXA.out]; rfl
            have HF6 : Hid (FrR ob w2 (w3.drew.alloc (.cells (extE (fewXX x)).toArray 69))) := HF.out.drew.trans (FrR.of ((Below.refl _ _).alloc (Nat.le_refl _) _))
            have HO6 : Hid (OwnG 2 extE 69 (w3.drew.alloc (.cells (extE (fewXX x)).toArray 69)) w2.heap.size (.slice qa j qc) ((c.xs.take j).map fewXX)) := HO.out.below ((Below.refl _ _).drew.alloc (Nat.le_refl _) _)
            have HR6 : Hid ((w3.drew.alloc (.cells (extE (fewXX x)).toArray 69)).heap[ob]? = some (.cells (coA (fewCC c) (.slice oa k oc) (.slice qa j qc)) 34 (0, 0))) := (Below.heap_alloc _ _ _ (Array.getElem?_eq_some_iff.1 HR.out).1).trans HR.out
            have HX6 : Hid ((w3.drew.alloc (.cells (extE (fewXX x)).toArray 69)).heap[bx]? = some (.cells (extE x).toArray 65 (0, 0))) := (Below.heap_alloc _ _ _ (Array.getElem?_eq_some_iff.1 HXA.out).1).trans HXA.out
            have HQ1 : Hid ((w3.drew.alloc (.cells (extE (fewXX x)).toArray 69)).cell? ⟨bx, 0, none⟩ = some (.string x.1)) := by show _ = _; rw [cell_of_row _ _ _ _ _ _ HX6.out]; rfl
            have HQ2 : Hid ((w3.drew.alloc (.cells (extE (fewXX x)).toArray 69)).cell? ⟨bx, 1, none⟩ = some (.string x.2)) := by show _ = _; rw [cell_of_row _ _ _ _ _ _ HX6.out]; rfl
            refine wp_region_noPanic ?_
            refine wp_region_held_drew (S := fun W => W.cell? ⟨bx, 0, none⟩ = some (.string x.1) ∧ W.cell? ⟨bx, 1, none⟩ = some (.string x.2)) (by kernel_rfl) ?_ (fun hHeld => ?_)
            · exact ⟨HQ3.out, HQ4.out⟩
            refine tkV 0 (v := ?_) (hw := ?_) (h := ?_)
            rotate_left
            · intro W hSW
              go_simp
              try with_reducible rfl
            try simp only [Act.put, List.setIfInBounds_toArray, List.set_cons_zero, List.set_cons_succ]
            refine tkV 2 (v := ?_) (hw := ?_) (h := ?_)
            rotate_left
            · intro W hSW
              go_simp
              try with_reducible rfl
            try simp only [Act.put, List.setIfInBounds_toArray, List.set_cons_zero, List.set_cons_succ]
            refine tkY 3 (hy := (yieldsIf_load_str (by rfl) 9 _ rfl bx 0 rfl x.1 (fun W hSW => hSW.1) Tryz.underlying9)) (h := ?_)
            try simp only [Act.put, List.setIfInBounds_toArray, List.set_cons_zero, List.set_cons_succ]
            refine tkV 4 (v := ?_) (hw := ?_) (h := ?_)
            rotate_left
            · intro W hSW
              go_simp
              try with_reducible rfl
            try simp only [Act.put, List.setIfInBounds_toArray, List.set_cons_zero, List.set_cons_succ]
            refine tkY 5 (hy := (yieldsIf_load_str (by rfl) 9 _ rfl bx 0 rfl x.1 (fun W hSW => hSW.1) Tryz.underlying9)) (h := ?_)
            try simp only [Act.put, List.setIfInBounds_toArray, List.set_cons_zero, List.set_cons_succ]
            refine tkV 6 (v := ?_) (hw := ?_) (h := ?_)
            rotate_left
            · intro W hSW
              go_simp
              try with_reducible rfl
            try simp only [Act.put, List.setIfInBounds_toArray, List.set_cons_zero, List.set_cons_succ]
            refine tkV 7 (v := ?_) (hw := ?_) (h := ?_)
            rotate_left
            · intro W hSW
              go_simp
              try with_reducible rfl
            try simp only [Act.put, List.setIfInBounds_toArray, List.set_cons_zero, List.set_cons_succ]
            refine tkV 8 (v := ?_) (hw := ?_) (h := ?_)
            rotate_left
            · intro W hSW
              go_simp
              try with_reducible rfl
            try simp only [Act.put, List.setIfInBounds_toArray, List.set_cons_zero, List.set_cons_succ]
            refine tkV 9 (v := ?_) (hw := ?_) (h := ?_)
            rotate_left
            · intro W hSW
              go_simp
              try with_reducible rfl
            try simp only [Act.put, List.setIfInBounds_toArray, List.set_cons_zero, List.set_cons_succ]
            refine tkY 10 (hy := (yieldsIf_load_str (by rfl) 9 _ rfl bx 1 rfl x.2 (fun W hSW => hSW.2) Tryz.underlying9)) (h := ?_)
            try simp only [Act.put, List.setIfInBounds_toArray, List.set_cons_zero, List.set_cons_succ]
            refine tkV 11 (v := ?_) (hw := ?_) (h := ?_)
            rotate_left
            · intro W hSW
              go_simp
              try with_reducible rfl
            try simp only [Act.put, List.setIfInBounds_toArray, List.set_cons_zero, List.set_cons_succ]
            refine tkY 12 (hy := (yieldsIf_load_str (by rfl) 9 _ rfl bx 1 rfl x.2 (fun W hSW => hSW.2) Tryz.underlying9)) (h := ?_)
            try simp only [Act.put, List.setIfInBounds_toArray, List.set_cons_zero, List.set_cons_succ]
            refine tkV 13 (v := ?_) (hw := ?_) (h := ?_)
            rotate_left
            · intro W hSW
              go_simp
              try with_reducible rfl
            try simp only [Act.put, List.setIfInBounds_toArray, List.set_cons_zero, List.set_cons_succ]
            refine tkV 14 (v := ?_) (hw := ?_) (h := ?_)
            rotate_left
            · intro W hSW
              go_simp
              try with_reducible rfl
            try simp only [Act.put, List.setIfInBounds_toArray, List.set_cons_zero, List.set_cons_succ]
            refine tkV 15 (v := ?_) (hw := ?_) (h := ?_)
            rotate_left
            · intro W hSW
              go_simp
              try with_reducible rfl
            try simp only [Act.put, List.setIfInBounds_toArray, List.set_cons_zero, List.set_cons_succ]
            refine tkY 16 (hy := (yieldsIf_build (by rfl) _ _ rfl #[(0, .string (fewXX x).1), (1, .string (fewXX x).2)] (map_two _ _ _ _ _ rfl rfl) (.agg (extE (fewXX x)).toArray) (fun W => build_cext _ _ W))) (h := ?_)
            try simp only [Act.put, List.setIfInBounds_toArray, List.set_cons_zero, List.set_cons_succ]
            refine wpAnyH_ready (rs := [1, 17]) (by kernel_rfl) (by simp) ?_
            refine AllReadyH.cons (by simp only [List.getElem?_toArray, List.getElem?_cons_succ, List.getElem?_cons_zero]; rfl) (fun K hK => ?_) (AllReadyH.cons (by simp only [List.getElem?_toArray, List.getElem?_cons_succ, List.getElem?_cons_zero]; rfl) (fun K hK => ?_) AllReadyH.nil)
            · have hcod := (CoRow.of (w := w3.drew) (by exact HR.out) H20.out).exts
              go_simp
              refine hK.out _ _ (⟨HQ3.out, HQ4.out⟩) (fun hHeld2 => ?_)
              clear hK K hHeld
              have hHeld := hHeld2
              clear hHeld2
              try simp only [Act.put, List.setIfInBounds_toArray, List.set_cons_zero, List.set_cons_succ]
              clear hcod
              refine wpAnyH_ready (rs := [17]) (by kernel_rfl) (by simp) ?_
              refine AllReadyH.cons (by simp only [List.getElem?_toArray, List.getElem?_cons_succ, List.getElem?_cons_zero]; rfl) (fun K hK => ?_) AllReadyH.nil
              refine step_slice (by rfl) _ _ _ rfl #[(0, .agg (extE (fewXX x)).toArray)] (map_one _ _ _ rfl) _ _ (slice_G1 elem_cext (by decide) (by decide) (by decide) extE_len (fewXX x) (.agg (extE (fewXX x)).toArray) (rfl) _) ?_
              refine hK.out _ _ (⟨HQ1.out, HQ2.out⟩) (fun hHeld2 => ?_)
              clear hK K hHeld
              have hHeld := hHeld2
              clear hHeld2
              try simp only [Act.put, List.setIfInBounds_toArray, List.set_cons_zero, List.set_cons_succ]
              refine wpAnyH_ready (rs := [18]) (by kernel_rfl) (by simp) ?_
              refine AllReadyH.cons (by simp only [List.getElem?_toArray, List.getElem?_cons_succ, List.getElem?_cons_zero]; rfl) (fun K hK => ?_) AllReadyH.nil
              refine step_append_G elem_cext extE_len (by decide) (by decide) extE_one (by rfl) _ _ rfl w2.heap.size (.slice qa j qc) ((c.xs.take j).map fewXX) j HTL.out rfl HO6.out w3.heap.size 0 1 1 [(fewXX x)] rfl (by decide) rfl (one_G w3.drew _ (fewXX x)) (j + 1) ((c.xs.take (j + 1)).map fewXX) rfl HT.out.symm (by have := HK20.out; omega) HF6.out.size ?_
              rintro g2 gc2 w7 ho7 hg7 hgg hgl
              have HO7 := Lib.hid ho7
              have HF7 : Hid (FrR ob w2 w7) := HF6.out.grown hg7 (fun g hg => (HO6.out.lt hg).1)
              have HR7 : Hid (w7.heap[ob]? = some (.cells (coA (fewCC c) (.slice oa k oc) (.slice qa j qc)) 34 (0, 0))) := (hg7.block ob (Array.getElem?_eq_some_iff.1 HR6.out).1 (fun e => by have h1 := (HO6.out.lt e.symm).1; have h2 := HOB.out; have h3 := HF2.out.size; omega)).trans HR6.out
              have HX7 : Hid (w7.heap[bx]? = some (.cells (extE x).toArray 65 (0, 0))) := (hg7.block bx (Array.getElem?_eq_some_iff.1 HX6.out).1 (fun e => HBX.out bx e.symm rfl)).trans HX6.out
              have HX70 : Hid (w7.cell? ⟨bx, 0, none⟩ = some (.string x.1)) := by show _ = _; rw [cell_of_row _ _ _ _ _ _ HX7.out]; rfl
              have HX71 : Hid (w7.cell? ⟨bx, 1, none⟩ = some (.string x.2)) := by show _ = _; rw [cell_of_row _ _ _ _ _ _ HX7.out]; rfl
              clear ho7 hg7 hgg hgl
              refine hK.out _ _ (⟨HX70.out, HX71.out⟩) (fun hHeld2 => ?_)
              clear hK K hHeld
              have hHeld := hHeld2
              clear hHeld2
              try simp only [Act.put, List.setIfInBounds_toArray, List.set_cons_zero, List.set_cons_succ]
              refine tkV 19 (v := ?_) (hw := ?_) (h := ?_)
              rotate_left
              · intro W hSW
                go_simp
                try with_reducible rfl
              try simp only [Act.put, List.setIfInBounds_toArray, List.set_cons_zero, List.set_cons_succ]
              have hco7 := (CoRow.of HR7.out H20.out).exts
              have hfo7 := frozen_of_row w7 ob 29 _ _ HR7.out
              refine wpAnyH_ready (rs := [20]) (by kernel_rfl) (by simp) ?_
              refine AllReadyH.cons (by simp only [List.getElem?_toArray, List.getElem?_cons_succ, List.getElem?_cons_zero]; rfl) (fun K hK => ?_) AllReadyH.nil
              go_simp
              have HR8 : Hid ((w7.setCell ⟨ob, 29, none⟩ (.slice (some ⟨g2, 0, none⟩) (j + 1) gc2)).heap[ob]? = some (.cells (coA (fewCC c) (.slice oa k oc) (.slice (some ⟨g2, 0, none⟩) (j + 1) gc2)) 34 (0, 0))) := (heap_setCell_same w7 ob 29 _ _ _ HR7.out).trans (by rw [coA_set _ _ _ H20.out 9]; rfl)
              have HF8 : Hid (FrR ob w2 (w7.setCell ⟨ob, 29, none⟩ (.slice (some ⟨g2, 0, none⟩) (j + 1) gc2))) := HF7.out.trans (FrR.setCell ob 29 _ _)
              have HO8 : Hid (OwnG 2 extE 69 (w7.setCell ⟨ob, 29, none⟩ (.slice (some ⟨g2, 0, none⟩) (j + 1) gc2)) w2.heap.size (.slice (some ⟨g2, 0, none⟩) (j + 1) gc2) ((c.xs.take (j + 1)).map fewXX)) := HO7.out.move fun g hg _ => heap_setCell_ne w7 ⟨ob, 29, none⟩ _ g (by have := HOB.out; have h3 := HF2.out.size; show g ≠ ob; omega)
              refine hK.out _ _ (⟨(heap_cell_ne w7 ob 29 _ bx 0 HNX.out).trans HX70.out, (heap_cell_ne w7 ob 29 _ bx 1 HNX.out).trans HX71.out⟩) (fun hHeld2 => ?_)
              clear hK K hHeld
              have hHeld := hHeld2
              clear hHeld2
              try simp only [Act.put, List.setIfInBounds_toArray, List.set_cons_zero, List.set_cons_succ]
              refine wpAnyH_done (by kernel_rfl) ?_ _
              refine NoPanic.normal ?_
              clear hHeld hco7 hfo7
              go_wp2_with fail
              try rw [WK.out ((j : Int) + 1) rfl]
              exact ⟨⟨j + 1, some ⟨g2, 0, none⟩, gc2, HK20.out, HKN.out, rfl, HO8.out, HR8.out, HF8.out⟩, by simp [intOf]; have := HKN.out; omega⟩
            · refine step_slice (by rfl) _ _ _ rfl #[(0, .agg (extE (fewXX x)).toArray)] (map_one _ _ _ rfl) _ _ (slice_G1 elem_cext (by decide) (by decide) (by decide) extE_len (fewXX x) (.agg (extE (fewXX x)).toArray) (rfl) _) ?_
              refine hK.out _ _ (⟨HQ1.out, HQ2.out⟩) (fun hHeld2 => ?_)
              clear hK K hHeld
              have hHeld := hHeld2
              clear hHeld2
              try simp only [Act.put, List.setIfInBounds_toArray, List.set_cons_zero, List.set_cons_succ]
              refine wpAnyH_ready (rs := [1]) (by kernel_rfl) (by simp) ?_
              refine AllReadyH.cons (by simp only [List.getElem?_toArray, List.getElem?_cons_succ, List.getElem?_cons_zero]; rfl) (fun K hK => ?_) AllReadyH.nil
              have hcod := (CoRow.of (w := w3.alloc (.cells (extE (fewXX x)).toArray 69)) (by exact HR6.out) H20.out).exts
              go_simp
              try rw [show (w3.alloc (.cells (extE (fewXX x)).toArray 69)).drew = w3.drew.alloc (.cells (extE (fewXX x)).toArray 69) from rfl]
              refine hK.out _ _ (⟨HQ1.out, HQ2.out⟩) (fun hHeld2 => ?_)
              clear hK K hHeld
              have hHeld := hHeld2
              clear hHeld2
              try simp only [Act.put, List.setIfInBounds_toArray, List.set_cons_zero, List.set_cons_succ]
              clear hcod
              refine wpAnyH_ready (rs := [18]) (by kernel_rfl) (by simp) ?_
              refine AllReadyH.cons (by simp only [List.getElem?_toArray, List.getElem?_cons_succ, List.getElem?_cons_zero]; rfl) (fun K hK => ?_) AllReadyH.nil
              refine step_append_G elem_cext extE_len (by decide) (by decide) extE_one (by rfl) _ _ rfl w2.heap.size (.slice qa j qc) ((c.xs.take j).map fewXX) j HTL.out rfl HO6.out w3.heap.size 0 1 1 [(fewXX x)] rfl (by decide) rfl (one_G w3.drew _ (fewXX x)) (j + 1) ((c.xs.take (j + 1)).map fewXX) rfl HT.out.symm (by have := HK20.out; omega) HF6.out.size ?_
              rintro g2 gc2 w7 ho7 hg7 hgg hgl
              have HO7 := Lib.hid ho7
              have HF7 : Hid (FrR ob w2 w7) := HF6.out.grown hg7 (fun g hg => (HO6.out.lt hg).1)
              have HR7 : Hid (w7.heap[ob]? = some (.cells (coA (fewCC c) (.slice oa k oc) (.slice qa j qc)) 34 (0, 0))) := (hg7.block ob (Array.getElem?_eq_some_iff.1 HR6.out).1 (fun e => by have h1 := (HO6.out.lt e.symm).1; have h2 := HOB.out; have h3 := HF2.out.size; omega)).trans HR6.out
              have HX7 : Hid (w7.heap[bx]? = some (.cells (extE x).toArray 65 (0, 0))) := (hg7.block bx (Array.getElem?_eq_some_iff.1 HX6.out).1 (fun e => HBX.out bx e.symm rfl)).trans HX6.out
              have HX70 : Hid (w7.cell? ⟨bx, 0, none⟩ = some (.string x.1)) := by show _ = _; rw [cell_of_row _ _ _ _ _ _ HX7.out]; rfl
              have HX71 : Hid (w7.cell? ⟨bx, 1, none⟩ = some (.string x.2)) := by show _ = _; rw [cell_of_row _ _ _ _ _ _ HX7.out]; rfl
              clear ho7 hg7 hgg hgl
              refine hK.out _ _ (⟨HX70.out, HX71.out⟩) (fun hHeld2 => ?_)
              clear hK K hHeld
              have hHeld := hHeld2
              clear hHeld2
              try simp only [Act.put, List.setIfInBounds_toArray, List.set_cons_zero, List.set_cons_succ]
              refine tkV 19 (v := ?_) (hw := ?_) (h := ?_)
              rotate_left
              · intro W hSW
                go_simp
                try with_reducible rfl
              try simp only [Act.put, List.setIfInBounds_toArray, List.set_cons_zero, List.set_cons_succ]
              have hco7 := (CoRow.of HR7.out H20.out).exts
              have hfo7 := frozen_of_row w7 ob 29 _ _ HR7.out
              refine wpAnyH_ready (rs := [20]) (by kernel_rfl) (by simp) ?_
              refine AllReadyH.cons (by simp only [List.getElem?_toArray, List.getElem?_cons_succ, List.getElem?_cons_zero]; rfl) (fun K hK => ?_) AllReadyH.nil
              go_simp
              have HR8 : Hid ((w7.setCell ⟨ob, 29, none⟩ (.slice (some ⟨g2, 0, none⟩) (j + 1) gc2)).heap[ob]? = some (.cells (coA (fewCC c) (.slice oa k oc) (.slice (some ⟨g2, 0, none⟩) (j + 1) gc2)) 34 (0, 0))) := (heap_setCell_same w7 ob 29 _ _ _ HR7.out).trans (by rw [coA_set _ _ _ H20.out 9]; rfl)
              have HF8 : Hid (FrR ob w2 (w7.setCell ⟨ob, 29, none⟩ (.slice (some ⟨g2, 0, none⟩) (j + 1) gc2))) := HF7.out.trans (FrR.setCell ob 29 _ _)
              have HO8 : Hid (OwnG 2 extE 69 (w7.setCell ⟨ob, 29, none⟩ (.slice (some ⟨g2, 0, none⟩) (j + 1) gc2)) w2.heap.size (.slice (some ⟨g2, 0, none⟩) (j + 1) gc2) ((c.xs.take (j + 1)).map fewXX)) := HO7.out.move fun g hg _ => heap_setCell_ne w7 ⟨ob, 29, none⟩ _ g (by have := HOB.out; have h3 := HF2.out.size; show g ≠ ob; omega)
              refine hK.out _ _ (⟨(heap_cell_ne w7 ob 29 _ bx 0 HNX.out).trans HX70.out, (heap_cell_ne w7 ob 29 _ bx 1 HNX.out).trans HX71.out⟩) (fun hHeld2 => ?_)
              clear hK K hHeld
              have hHeld := hHeld2
              clear hHeld2
              try simp only [Act.put, List.setIfInBounds_toArray, List.set_cons_zero, List.set_cons_succ]
              refine wpAnyH_done (by kernel_rfl) ?_ _
              refine NoPanic.normal ?_
              clear hHeld hco7 hfo7
              go_wp2_with fail
              try rw [WK.out ((j : Int) + 1) rfl]
              exact ⟨⟨j + 1, some ⟨g2, 0, none⟩, gc2, HK20.out, HKN.out, rfl, HO8.out, HR8.out, HF8.out⟩, by simp [intOf]; have := HKN.out; omega⟩
    · have hkl : k < n := by omega
      have hki : (k : Int) < (n : Int) := by omega
      by_cases h2 : k = 20
      · subst h2
        have HEY : Hid (c.ps.take 20 = (fewCC c).ps) := by show _ = List.take _ _; rfl
        have HPL_ : Hid ((fewCC c).ps.length = 20) := by rw [← HEY.out]; exact HTL.out
        rw [HEY.out] at HO
        have hp20 := HQ3.out
        clear hk hkn HEY HTL
        obtain ⟨w2, hw2⟩ : ∃ W, wr = W := ⟨_, rfl⟩
        rw [hw2] at HO HR HF HQ3 hp20 ⊢
        clear hw2 HPC
        have HF2 := HF
        have HPL2 : Hid (p0 < w2.heap.size) := Nat.lt_of_lt_of_le HPL.out HF.out.size
        have HRL2 : Hid (rb < w2.heap.size) := Nat.lt_of_lt_of_le HRL.out HF.out.size
        have HR3 : Hid (w2.heap[rb]? = some (.cells (coA cz (.slice none 0 0) (.slice none 0 0)) 34 (0, 0))) := (HF.out.block rb HRL.out HN1.out.2.1).trans HR2.out
        have HOW : Hid (∀ W, FrR ob w2 W → OwnG 20 idE 29 W w1.heap.size (.slice oa 20 oc) (fewCC c).ps) := fun W hW => HO.out.move fun g hg hgl => hW.block g hgl (by have := HOB.out; omega)
        have HP29B : Hid (w2.cell? ⟨p0, 29, none⟩ = some (.slice xa m xc)) := (HF.out.cell HPL.out HPO.out 29).trans HRW.out.exts
        have HPC : Hid (∀ W, FrR ob w2 W → W.cell? ⟨p0, 29, none⟩ = some (.slice xa m xc)) := fun W hW => (hW.cell HPL2.out HPO.out 29).trans HP29B.out
        have HBW2 : Hid (Below w.heap.size w w2) := HB2.out.trans (HF.out.below HN1.out.2.2.2.2.2 HB2.out.size)
        have HRI := HR
        go_wp2_with fail
        go_loopw [5] (fun i wt => ∃ (j : Nat) (qa : Option Addr) (qc : Nat), j ≤ 20 ∧ j ≤ m ∧ i = .int .i64 (j : Int) ∧ OwnG 2 extE 69 wt w2.heap.size (.slice qa j qc) ((c.xs.take j).map fewXX) ∧ wt.heap[ob]? = some (.cells (coA (fewCC c) (.slice oa 20 oc) (.slice qa j qc)) 34 (0, 0)) ∧ FrR ob w2 wt) (fun i _ => m - (intOf i).toNat)
        case atStart => exact ⟨0, none, 0, Nat.zero_le _, Nat.zero_le _, rfl, by rw [List.take_zero]; exact OwnG.nil _ _ _, HRI.out, FrR.refl _ _⟩
        case round =>
          rename World => wt
          obtain ⟨j, qa, qc, hj, hjm, rfl, hq, ht, hg⟩ := hrel
          clear HO HR HF HRI WK
          have HO := Lib.hid hq
          have HR := Lib.hid ht
          have HF := Lib.hid hg
          have WK := Lib.hid (next_int j (by omega))
          have HQ3 := Lib.hid (HPC.out wt HF.out)
          clear hq ht hg
          by_cases h1 : j = m
          · subst h1
            have HEX : Hid ((c.xs.take j).map fewXX = (fewCC c).xs) := by show _ = List.map _ _; rw [List.take_of_length_le (by rw [HM.out]; omega), List.take_of_length_le (by rw [HM.out]; omega)]
            have HXL : Hid ((fewCC c).xs.length = j) := by rw [← HEX.out]; show _ = _; rw [List.length_map, List.length_take, HM.out]; omega
            rw [HEX.out] at HO
            have hp29 := HQ3.out
            clear hj hjm HEX
            have HCL : Hid ((coL (fewCC c) (.slice oa 20 oc) (.slice qa j qc)).toArray = coV (fewCC c) oa oc qa qc) := by show _ = _; unfold coV; rw [HPL_.out, HXL.out]; rfl
            have HRF : Hid (wt.heap[rb]? = some (.cells (coA cz (.slice none 0 0) (.slice none 0 0)) 34 (0, 0))) := (HF.out.block rb HRL2.out HN1.out.2.1).trans HR3.out
            have HBF : Hid (Below w.heap.size w wt) := HBW2.out.trans (HF.out.below HN1.out.2.2.2.2.2 HBW2.out.size)
            have HOF := Lib.hid (HOW.out wt HF.out)
            have HSZ : Hid ((coV (fewCC c) oa oc qa qc).size = 31) := coA_size _ _ _ H20.out
            go_wp2_with (first
              | (refine wpList_load_mid rfl 34 _ rfl ob 0 rfl (coL (fewCC c) (.slice oa 20 oc) (.slice qa j qc)) _ (CoRow.of HR.out H20.out).cells Tryz.underlying34 rfl (info_co (fewCC c) _ _ H20.out) ?_
                 rw [HCL.out])
              | refine wpList_store_row rfl 34 _ _ rfl rb (coV (fewCC c) oa oc qa qc) rfl rfl 34 (coA cz (.slice none 0 0) (.slice none 0 0)) HRF.out (info_coA (fewCC c) _ _ H20.out) (by rw [HSZ.out, coA_size _ _ _ cz_20]) (coA_one _ _ _ rfl rfl) ?_)
            refine bodyPost_ret (results_cell_row Tryz.results9 _ _ rb 34 (coV (fewCC c) oa oc qa qc) (0, 0) _ rfl (setRow_heap _ _ _ _ _ _ HRF.out) Tryz.underlying34 rfl (info_coA (fewCC c) _ _ H20.out)) rfl ?_
            refine ⟨⟨oa, oc, qa, qc, rfl, H20.out, HBYT.out, fun p hp => HIDS.out p (List.mem_of_mem_take hp), rowat_setRow (HOF.out.fs idE_len).1 (fun b' off' he _ => by have := HOF.out.base he; have := HRL.out; omega), rowat_setRow (HO.out.fs extE_len).1 (fun b' off' he _ => by have := HO.out.base he; have := HRL2.out; omega)⟩, below_setRow HBF.out HN1.out.2.2.2.2.1 _⟩
          · have hjl : j < m := by omega
            have hji : (j : Int) < (m : Int) := by omega
            by_cases h2 : j = 20
            · subst h2
              have HEX : Hid ((c.xs.take 20).map fewXX = (fewCC c).xs) := by show _ = List.map _ _; rfl
              have HXL : Hid ((fewCC c).xs.length = 20) := by rw [← HEX.out]; show _ = _; rw [List.length_map, List.length_take, HM.out]; omega
              rw [HEX.out] at HO
              have hp29 := HQ3.out
              clear hj hjm HEX
              have HCL : Hid ((coL (fewCC c) (.slice oa 20 oc) (.slice qa 20 qc)).toArray = coV (fewCC c) oa oc qa qc) := by show _ = _; unfold coV; rw [HPL_.out, HXL.out]; rfl
              have HRF : Hid (wt.heap[rb]? = some (.cells (coA cz (.slice none 0 0) (.slice none 0 0)) 34 (0, 0))) := (HF.out.block rb HRL2.out HN1.out.2.1).trans HR3.out
              have HBF : Hid (Below w.heap.size w wt) := HBW2.out.trans (HF.out.below HN1.out.2.2.2.2.2 HBW2.out.size)
              have HOF := Lib.hid (HOW.out wt HF.out)
              have HSZ : Hid ((coV (fewCC c) oa oc qa qc).size = 31) := coA_size _ _ _ H20.out
              go_wp2_with (first
                | (refine wpList_load_mid rfl 34 _ rfl ob 0 rfl (coL (fewCC c) (.slice oa 20 oc) (.slice qa 20 qc)) _ (CoRow.of HR.out H20.out).cells Tryz.underlying34 rfl (info_co (fewCC c) _ _ H20.out) ?_
                   rw [HCL.out])
                | refine wpList_store_row rfl 34 _ _ rfl rb (coV (fewCC c) oa oc qa qc) rfl rfl 34 (coA cz (.slice none 0 0) (.slice none 0 0)) HRF.out (info_coA (fewCC c) _ _ H20.out) (by rw [HSZ.out, coA_size _ _ _ cz_20]) (coA_one _ _ _ rfl rfl) ?_)
              refine bodyPost_ret (results_cell_row Tryz.results9 _ _ rb 34 (coV (fewCC c) oa oc qa qc) (0, 0) _ rfl (setRow_heap _ _ _ _ _ _ HRF.out) Tryz.underlying34 rfl (info_coA (fewCC c) _ _ H20.out)) rfl ?_
              refine ⟨⟨oa, oc, qa, qc, rfl, H20.out, HBYT.out, fun p hp => HIDS.out p (List.mem_of_mem_take hp), rowat_setRow (HOF.out.fs idE_len).1 (fun b' off' he _ => by have := HOF.out.base he; have := HRL.out; omega), rowat_setRow (HO.out.fs extE_len).1 (fun b' off' he _ => by have := HO.out.base he; have := HRL2.out; omega)⟩, below_setRow HBF.out HN1.out.2.2.2.2.1 _⟩
            · have HKN : Hid (j + 1 ≤ m) := by show _ ≤ _; omega
              have HK20 : Hid (j + 1 ≤ 20) := by show _ ≤ _; omega
              have hj3i : (j : Int) < 20 := by omega
              rcases HAX.out with h0 | ⟨b, off, rfl, hbl, hc⟩
              · rw [HM.out] at h0; omega
              obtain ⟨x, hx⟩ : ∃ x, c.xs[j]? = some x := ⟨_, List.getElem?_eq_getElem (by rw [HM.out]; exact hjl)⟩
              have HRX : Hid (wt.rangeAt b (off + j * 2) (extE x)) := HF.out.range (by have := HBW2.out.size; omega) (by have := HN1.out; omega) (range_below (hc j x hx) HBW2.out hbl)
              have HT : Hid ((c.xs.take (j + 1)).map fewXX = (c.xs.take j).map fewXX ++ [fewXX x]) := by show _ = _; rw [take_snoc hx, List.map_append]; rfl
              have HTL : Hid (((c.xs.take j).map fewXX).length = j) := by show _ = _; rw [List.length_map, List.length_take, HM.out]; omega
              have hze := zero_rcext
              have HZX : Hid ((wt.alloc (.cells #[.string ⟨#[]⟩, .string ⟨#[]⟩] 65)).heap[wt.heap.size]? = some (.cells #[.string ⟨#[]⟩, .string ⟨#[]⟩] 65 (0, 0))) := heap_alloc_new _ _
              have HXA : Hid (((wt.alloc (.cells #[.string ⟨#[]⟩, .string ⟨#[]⟩] 65)).setRow wt.heap.size (extE x).toArray).heap[wt.heap.size]? = some (.cells (extE x).toArray 65 (0, 0))) := setRow_heap _ _ _ _ _ _ HZX.out
              have HBS : Hid (Below wt.heap.size wt ((wt.alloc (.cells #[.string ⟨#[]⟩, .string ⟨#[]⟩] 65)).setRow wt.heap.size (extE x).toArray)) := below_setRow ((Below.refl _ _).alloc (Nat.le_refl _) _) (Nat.le_refl _) _
              have hm1 : min (x.1.size : Int) 200 = ((min x.1.size 200 : Nat) : Int) := by omega
              have hm2 : min (x.2.size : Int) 200 = ((min x.2.size 200 : Nat) : Int) := by omega
              have hs1 : ∀ W, (Instr.slice 9 (.string x.1) none (some (.int .i64 ((min x.1.size 200 : Nat) : Int))) none).run Tryz.prog W = .ok (.string (fewXX x).1) W := fun W => slice_front x.1 (min x.1.size 200) (by omega) _ rfl W
              have hs2 : ∀ W, (Instr.slice 9 (.string x.2) none (some (.int .i64 ((min x.2.size 200 : Nat) : Int))) none).run Tryz.prog W = .ok (.string (fewXX x).2) W := fun W => slice_front x.2 (min x.2.size 200) (by omega) _ rfl W
              have hp29 := HQ3.out
              clear hx hbl hc hj hjm
              go_wp2_with (first
                | refine wpList_load_mid rfl 65 _ rfl b (off + j * 2) rfl (extE x) _ HRX.out Tryz.underlying65 rfl (info_rcext x) ?_
                | refine wpList_store_row rfl 65 _ _ rfl wt.heap.size (extE x).toArray rfl rfl 65 #[.string ⟨#[]⟩, .string ⟨#[]⟩] HZX.out (info_rcextA x) rfl (extA_one x) ?_)
              obtain ⟨w3, hw3⟩ : ∃ W, (wt.alloc (.cells #[.string ⟨#[]⟩, .string ⟨#[]⟩] 65)).setRow wt.heap.size (extE x).toArray = W := ⟨_, rfl⟩
              rw [hw3] at HXA HBS ⊢
              clear hw3 HZX hze HRX HQ3 hp29
              have HFT := HF
              have HRT := HR
              have HOT := HO
              clear HF HR HO
              have HF : Hid (FrR ob w2 w3) := HFT.out.trans (FrR.of HBS.out)
              have HR : Hid (w3.heap[ob]? = some (.cells (coA (fewCC c) (.slice oa 20 oc) (.slice qa j qc)) 34 (0, 0))) := (HBS.out.block ob (Array.getElem?_eq_some_iff.1 HRT.out).1).trans HRT.out
              have HO : Hid (OwnG 2 extE 69 w3 w2.heap.size (.slice qa j qc) ((c.xs.take j).map fewXX)) := HOT.out.below HBS.out
              obtain ⟨bx, hbx⟩ : ∃ b, wt.heap.size = b := ⟨_, rfl⟩
              have HBX : Hid (∀ g, (Value.slice qa j qc).ownBlock = some g → g ≠ bx) := fun g hg => by have := (HOT.out.lt hg).2; omega
              have HNX : Hid (bx ≠ ob) := by have := (Array.getElem?_eq_some_iff.1 HRT.out).1; show _ ≠ _; omega
              rw [hbx] at HXA ⊢
              clear hbx HBS HFT HRT HOT
              have HQ3 : Hid (w3.cell? ⟨bx, 0, none⟩ = some (.string x.1)) := by show _ = _; rw [cell_of_row _ _ _ _ _ _ HXA.out]; rfl
              have HQ4 : Hid (w3.cell? ⟨bx, 1, none⟩ = some (.string x.2)) := by show _ = _; rw [cell_of_row _ _ _ _ _ _ HXA.out]; rfl
              have HF6 : Hid (FrR ob w2 (w3.drew.alloc (.cells (extE (fewXX x)).toArray 69))) := HF.out.drew.trans (FrR.of ((Below.refl _ _).alloc (Nat.le_refl _) _))
              have HO6 : Hid (OwnG 2 extE 69 (w3.drew.alloc (.cells (extE (fewXX x)).toArray 69)) w2.heap.size (.slice qa j qc) ((c.xs.take j).map fewXX)) := HO.out.below ((Below.refl _ _).drew.alloc (Nat.le_refl _) _)
              have HR6 : Hid ((w3.drew.alloc (.cells (extE (fewXX x)).toArray 69)).heap[ob]? = some (.cells (coA (fewCC c) (.slice oa 20 oc) (.slice qa j qc)) 34 (0, 0))) := (Below.heap_alloc _ _ _ (Array.getElem?_eq_some_iff.1 HR.out).1).trans HR.out
              have HX6 : Hid ((w3.drew.alloc (.cells (extE (fewXX x)).toArray 69)).heap[bx]? = some (.cells (extE x).toArray 65 (0, 0))) := (Below.heap_alloc _ _ _ (Array.getElem?_eq_some_iff.1 HXA.out).1).trans HXA.out
              have HQ1 : Hid ((w3.drew.alloc (.cells (extE (fewXX x)).toArray 69)).cell? ⟨bx, 0, none⟩ = some (.string x.1)) := by show _ = _; rw [cell_of_row _ _ _ _ _ _ HX6.out]; rfl
              have HQ2 : Hid ((w3.drew.alloc (.cells (extE (fewXX x)).toArray 69)).cell? ⟨bx, 1, none⟩ = some (.string x.2)) := by show _ = _; rw [cell_of_row _ _ _ _ _ _ HX6.out]; rfl
              refine wp_region_noPanic ?_
              refine wp_region_held_drew (S := fun W => W.cell? ⟨bx, 0, none⟩ = some (.string x.1) ∧ W.cell? ⟨bx, 1, none⟩ = some (.string x.2)) (by kernel_rfl) ?_ (fun hHeld => ?_)
              · exact ⟨HQ3.out, HQ4.out⟩
              refine tkV 0 (v := ?_) (hw := ?_) (h := ?_)
              rotate_left
              · intro W hSW
                go_simp
                try with_reducible rfl
              try simp only [Act.put, List.setIfInBounds_toArray, List.set_cons_zero, List.set_cons_succ]
              refine tkV 2 (v := ?_) (hw := ?_) (h := ?_)
              rotate_left
              · intro W hSW
                go_simp
                try with_reducible rfl
              try simp only [Act.put, List.setIfInBounds_toArray, List.set_cons_zero, List.set_cons_succ]
              refine tkY 3 (hy := (yieldsIf_load_str (by rfl) 9 _ rfl bx 0 rfl x.1 (fun W hSW => hSW.1) Tryz.underlying9)) (h := ?_)
              try simp only [Act.put, List.setIfInBounds_toArray, List.set_cons_zero, List.set_cons_succ]
              refine tkV 4 (v := ?_) (hw := ?_) (h := ?_)
              rotate_left
              · intro W hSW
                go_simp
                try with_reducible rfl
              try simp only [Act.put, List.setIfInBounds_toArray, List.set_cons_zero, List.set_cons_succ]
              refine tkY 5 (hy := (yieldsIf_load_str (by rfl) 9 _ rfl bx 0 rfl x.1 (fun W hSW => hSW.1) Tryz.underlying9)) (h := ?_)
              try simp only [Act.put, List.setIfInBounds_toArray, List.set_cons_zero, List.set_cons_succ]
              refine tkV 6 (v := ?_) (hw := ?_) (h := ?_)
              rotate_left
              · intro W hSW
                go_simp
                try with_reducible rfl
              try simp only [Act.put, List.setIfInBounds_toArray, List.set_cons_zero, List.set_cons_succ]
              refine tkV 7 (v := ?_) (hw := ?_) (h := ?_)
              rotate_left
              · intro W hSW
                go_simp
                try with_reducible rfl
              try simp only [Act.put, List.setIfInBounds_toArray, List.set_cons_zero, List.set_cons_succ]
              refine tkV 8 (v := ?_) (hw := ?_) (h := ?_)
              rotate_left
              · intro W hSW
                go_simp
                try with_reducible rfl
              try simp only [Act.put, List.setIfInBounds_toArray, List.set_cons_zero, List.set_cons_succ]
              refine tkV 9 (v := ?_) (hw := ?_) (h := ?_)
              rotate_left
              · intro W hSW
                go_simp
                try with_reducible rfl
              try simp only [Act.put, List.setIfInBounds_toArray, List.set_cons_zero, List.set_cons_succ]
              refine tkY 10 (hy := (yieldsIf_load_str (by rfl) 9 _ rfl bx 1 rfl x.2 (fun W hSW => hSW.2) Tryz.underlying9)) (h := ?_)
              try simp only [Act.put, List.setIfInBounds_toArray, List.set_cons_zero, List.set_cons_succ]
              refine tkV 11 (v := ?_) (hw := ?_) (h := ?_)
              rotate_left
              · intro W hSW
                go_simp
                try with_reducible rfl
              try simp only [Act.put, List.setIfInBounds_toArray, List.set_cons_zero, List.set_cons_succ]
              refine tkY 12 (hy := (yieldsIf_load_str (by rfl) 9 _ rfl bx 1 rfl x.2 (fun W hSW => hSW.2) Tryz.underlying9)) (h := ?_)
              try simp only [Act.put, List.setIfInBounds_toArray, List.set_cons_zero, List.set_cons_succ]
              refine tkV 13 (v := ?_) (hw := ?_) (h := ?_)
              rotate_left
              · intro W hSW
                go_simp
                try with_reducible rfl
              try simp only [Act.put, List.setIfInBounds_toArray, List.set_cons_zero, List.set_cons_succ]
              refine tkV 14 (v := ?_) (hw := ?_) (h := ?_)
              rotate_left
              · intro W hSW
                go_simp
                try with_reducible rfl
              try simp only [Act.put, List.setIfInBounds_toArray, List.set_cons_zero, List.set_cons_succ]
              refine tkV 15 (v := ?_) (hw := ?_) (h := ?_)
              rotate_left
              · intro W hSW
                go_simp
                try with_reducible rfl
              try simp only [Act.put, List.setIfInBounds_toArray, List.set_cons_zero, List.set_cons_succ]
              refine tkY 16 (hy := (yieldsIf_build (by rfl) _ _ rfl #[(0, .string (fewXX x).1), (1, .string (fewXX x).2)] (map_two _ _ _ _ _ rfl rfl) (.agg (extE (fewXX x)).toArray) (fun W => build_cext _ _ W))) (h := ?_)
              try simp only [Act.put, List.setIfInBounds_toArray, List.set_cons_zero, List.set_cons_succ]
              refine wpAnyH_ready (rs := [1, 17]) (by kernel_rfl) (by simp) ?_
              refine AllReadyH.cons (by simp only [List.getElem?_toArray, List.getElem?_cons_succ, List.getElem?_cons_zero]; rfl) (fun K hK => ?_) (AllReadyH.cons (by simp only [List.getElem?_toArray, List.getElem?_cons_succ, List.getElem?_cons_zero]; rfl) (fun K hK => ?_) AllReadyH.nil)
              · have hcod := (CoRow.of (w := w3.drew) (by exact HR.out) H20.out).exts
                go_simp
                refine hK.out _ _ (⟨HQ3.out, HQ4.out⟩) (fun hHeld2 => ?_)
                clear hK K hHeld
                have hHeld := hHeld2
                clear hHeld2
                try simp only [Act.put, List.setIfInBounds_toArray, List.set_cons_zero, List.set_cons_succ]
                clear hcod
                refine wpAnyH_ready (rs := [17]) (by kernel_rfl) (by simp) ?_
                refine AllReadyH.cons (by simp only [List.getElem?_toArray, List.getElem?_cons_succ, List.getElem?_cons_zero]; rfl) (fun K hK => ?_) AllReadyH.nil
                refine step_slice (by rfl) _ _ _ rfl #[(0, .agg (extE (fewXX x)).toArray)] (map_one _ _ _ rfl) _ _ (slice_G1 elem_cext (by decide) (by decide) (by decide) extE_len (fewXX x) (.agg (extE (fewXX x)).toArray) (rfl) _) ?_
                refine hK.out _ _ (⟨HQ1.out, HQ2.out⟩) (fun hHeld2 => ?_)
                clear hK K hHeld
                have hHeld := hHeld2
                clear hHeld2
                try simp only [Act.put, List.setIfInBounds_toArray, List.set_cons_zero, List.set_cons_succ]
                refine wpAnyH_ready (rs := [18]) (by kernel_rfl) (by simp) ?_
                refine AllReadyH.cons (by simp only [List.getElem?_toArray, List.getElem?_cons_succ, List.getElem?_cons_zero]; rfl) (fun K hK => ?_) AllReadyH.nil
                refine step_append_G elem_cext extE_len (by decide) (by decide) extE_one (by rfl) _ _ rfl w2.heap.size (.slice qa j qc) ((c.xs.take j).map fewXX) j HTL.out rfl HO6.out w3.heap.size 0 1 1 [(fewXX x)] rfl (by decide) rfl (one_G w3.drew _ (fewXX x)) (j + 1) ((c.xs.take (j + 1)).map fewXX) rfl HT.out.symm (by have := HK20.out; omega) HF6.out.size ?_
                rintro g2 gc2 w7 ho7 hg7 hgg hgl
                have HO7 := Lib.hid ho7
                have HF7 : Hid (FrR ob w2 w7) := HF6.out.grown hg7 (fun g hg => (HO6.out.lt hg).1)
                have HR7 : Hid (w7.heap[ob]? = some (.cells (coA (fewCC c) (.slice oa 20 oc) (.slice qa j qc)) 34 (0, 0))) := (hg7.block ob (Array.getElem?_eq_some_iff.1 HR6.out).1 (fun e => by have h1 := (HO6.out.lt e.symm).1; have h2 := HOB.out; have h3 := HF2.out.size; omega)).trans HR6.out
                have HX7 : Hid (w7.heap[bx]? = some (.cells (extE x).toArray 65 (0, 0))) := (hg7.block bx (Array.getElem?_eq_some_iff.1 HX6.out).1 (fun e => HBX.out bx e.symm rfl)).trans HX6.out
                have HX70 : Hid (w7.cell? ⟨bx, 0, none⟩ = some (.string x.1)) := by show _ = _; rw [cell_of_row _ _ _ _ _ _ HX7.out]; rfl
                have HX71 : Hid (w7.cell? ⟨bx, 1, none⟩ = some (.string x.2)) := by show _ = _; rw [cell_of_row _ _ _ _ _ _ HX7.out]; rfl
                clear ho7 hg7 hgg hgl
                refine hK.out _ _ (⟨HX70.out, HX71.out⟩) (fun hHeld2 => ?_)
                clear hK K hHeld
                have hHeld := hHeld2
                clear hHeld2
                try simp only [Act.put, List.setIfInBounds_toArray, List.set_cons_zero, List.set_cons_succ]
                refine tkV 19 (v := ?_) (hw := ?_) (h := ?_)
                rotate_left
                · intro W hSW
                  go_simp
                  try with_reducible rfl
                try simp only [Act.put, List.setIfInBounds_toArray, List.set_cons_zero, List.set_cons_succ]
                have hco7 := (CoRow.of HR7.out H20.out).exts
                have hfo7 := frozen_of_row w7 ob 29 _ _ HR7.out
                refine wpAnyH_ready (rs := [20]) (by kernel_rfl) (by simp) ?_
                refine AllReadyH.cons (by simp only [List.getElem?_toArray, List.getElem?_cons_succ, List.getElem?_cons_zero]; rfl) (fun K hK => ?_) AllReadyH.nil
                go_simp
                have HR8 : Hid ((w7.setCell ⟨ob, 29, none⟩ (.slice (some ⟨g2, 0, none⟩) (j + 1) gc2)).heap[ob]? = some (.cells (coA (fewCC c) (.slice oa 20 oc) (.slice (some ⟨g2, 0, none⟩) (j + 1) gc2)) 34 (0, 0))) := (heap_setCell_same w7 ob 29 _ _ _ HR7.out).trans (by rw [coA_set _ _ _ H20.out 9]; rfl)
                have HF8 : Hid (FrR ob w2 (w7.setCell ⟨ob, 29, none⟩ (.slice (some ⟨g2, 0, none⟩) (j + 1) gc2))) := HF7.out.trans (FrR.setCell ob 29 _ _)
                have HO8 : Hid (OwnG 2 extE 69 (w7.setCell ⟨ob, 29, none⟩ (.slice (some ⟨g2, 0, none⟩) (j + 1) gc2)) w2.heap.size (.slice (some ⟨g2, 0, none⟩) (j + 1) gc2) ((c.xs.take (j + 1)).map fewXX)) := HO7.out.move fun g hg _ => heap_setCell_ne w7 ⟨ob, 29, none⟩ _ g (by have := HOB.out; have h3 := HF2.out.size; show g ≠ ob; omega)
                refine hK.out _ _ (⟨(heap_cell_ne w7 ob 29 _ bx 0 HNX.out).trans HX70.out, (heap_cell_ne w7 ob 29 _ bx 1 HNX.out).trans HX71.out⟩) (fun hHeld2 => ?_)
                clear hK K hHeld
                have hHeld := hHeld2
                clear hHeld2
                try simp only [Act.put, List.setIfInBounds_toArray, List.set_cons_zero, List.set_cons_succ]
                refine wpAnyH_done (by kernel_rfl) ?_ _
                refine NoPanic.normal ?_
                clear hHeld hco7 hfo7
                go_wp2_with fail
                try rw [WK.out ((j : Int) + 1) rfl]
                exact ⟨⟨j + 1, some ⟨g2, 0, none⟩, gc2, HK20.out, HKN.out, rfl, HO8.out, HR8.out, HF8.out⟩, by simp [intOf]; have := HKN.out; omega⟩
              · refine step_slice (by rfl) _ _ _ rfl #[(0, .agg (extE (fewXX x)).toArray)] (map_one _ _ _ rfl) _ _ (slice_G1 elem_cext (by decide) (by decide) (by decide) extE_len (fewXX x) (.agg (extE (fewXX x)).toArray) (rfl) _) ?_
                refine hK.out _ _ (⟨HQ1.out, HQ2.out⟩) (fun hHeld2 => ?_)
                clear hK K hHeld
                have hHeld := hHeld2
                clear hHeld2
                try simp only [Act.put, List.setIfInBounds_toArray, List.set_cons_zero, List.set_cons_succ]
                refine wpAnyH_ready (rs := [1]) (by kernel_rfl) (by simp) ?_
                refine AllReadyH.cons (by simp only [List.getElem?_toArray, List.getElem?_cons_succ, List.getElem?_cons_zero]; rfl) (fun K hK => ?_) AllReadyH.nil
                have hcod := (CoRow.of (w := w3.alloc (.cells (extE (fewXX x)).toArray 69)) (by exact HR6.out) H20.out).exts
                go_simp
                try rw [show (w3.alloc (.cells (extE (fewXX x)).toArray 69)).drew = w3.drew.alloc (.cells (extE (fewXX x)).toArray 69) from rfl]
                refine hK.out _ _ (⟨HQ1.out, HQ2.out⟩) (fun hHeld2 => ?_)
                clear hK K hHeld
                have hHeld := hHeld2
                clear hHeld2
                try simp only [Act.put, List.setIfInBounds_toArray, List.set_cons_zero, List.set_cons_succ]
                clear hcod
                refine wpAnyH_ready (rs := [18]) (by kernel_rfl) (by simp) ?_
                refine AllReadyH.cons (by simp only [List.getElem?_toArray, List.getElem?_cons_succ, List.getElem?_cons_zero]; rfl) (fun K hK => ?_) AllReadyH.nil
                refine step_append_G elem_cext extE_len (by decide) (by decide) extE_one (by rfl) _ _ rfl w2.heap.size (.slice qa j qc) ((c.xs.take j).map fewXX) j HTL.out rfl HO6.out w3.heap.size 0 1 1 [(fewXX x)] rfl (by decide) rfl (one_G w3.drew _ (fewXX x)) (j + 1) ((c.xs.take (j + 1)).map fewXX) rfl HT.out.symm (by have := HK20.out; omega) HF6.out.size ?_
                rintro g2 gc2 w7 ho7 hg7 hgg hgl
                have HO7 := Lib.hid ho7
                have HF7 : Hid (FrR ob w2 w7) := HF6.out.grown hg7 (fun g hg => (HO6.out.lt hg).1)
                have HR7 : Hid (w7.heap[ob]? = some (.cells (coA (fewCC c) (.slice oa 20 oc) (.slice qa j qc)) 34 (0, 0))) := (hg7.block ob (Array.getElem?_eq_some_iff.1 HR6.out).1 (fun e => by have h1 := (HO6.out.lt e.symm).1; have h2 := HOB.out; have h3 := HF2.out.size; omega)).trans HR6.out
                have HX7 : Hid (w7.heap[bx]? = some (.cells (extE x).toArray 65 (0, 0))) := (hg7.block bx (Array.getElem?_eq_some_iff.1 HX6.out).1 (fun e => HBX.out bx e.symm rfl)).trans HX6.out
                have HX70 : Hid (w7.cell? ⟨bx, 0, none⟩ = some (.string x.1)) := by show _ = _; rw [cell_of_row _ _ _ _ _ _ HX7.out]; rfl
                have HX71 : Hid (w7.cell? ⟨bx, 1, none⟩ = some (.string x.2)) := by show _ = _; rw [cell_of_row _ _ _ _ _ _ HX7.out]; rfl
                clear ho7 hg7 hgg hgl
                refine hK.out _ _ (⟨HX70.out, HX71.out⟩) (fun hHeld2 => ?_)
                clear hK K hHeld
                have hHeld := hHeld2
                clear hHeld2
                try simp only [Act.put, List.setIfInBounds_toArray, List.set_cons_zero, List.set_cons_succ]
                refine tkV 19 (v := ?_) (hw := ?_) (h := ?_)
                rotate_left
                · intro W hSW
                  go_simp
                  try with_reducible rfl
                try simp only [Act.put, List.setIfInBounds_toArray, List.set_cons_zero, List.set_cons_succ]
                have hco7 := (CoRow.of HR7.out H20.out).exts
                have hfo7 := frozen_of_row w7 ob 29 _ _ HR7.out
                refine wpAnyH_ready (rs := [20]) (by kernel_rfl) (by simp) ?_
                refine AllReadyH.cons (by simp only [List.getElem?_toArray, List.getElem?_cons_succ, List.getElem?_cons_zero]; rfl) (fun K hK => ?_) AllReadyH.nil
                go_simp
                have HR8 : Hid ((w7.setCell ⟨ob, 29, none⟩ (.slice (some ⟨g2, 0, none⟩) (j + 1) gc2)).heap[ob]? = some (.cells (coA (fewCC c) (.slice oa 20 oc) (.slice (some ⟨g2, 0, none⟩) (j + 1) gc2)) 34 (0, 0))) := (heap_setCell_same w7 ob 29 _ _ _ HR7.out).trans (by rw [coA_set _ _ _ H20.out 9]; rfl)
                have HF8 : Hid (FrR ob w2 (w7.setCell ⟨ob, 29, none⟩ (.slice (some ⟨g2, 0, none⟩) (j + 1) gc2))) := HF7.out.trans (FrR.setCell ob 29 _ _)
                have HO8 : Hid (OwnG 2 extE 69 (w7.setCell ⟨ob, 29, none⟩ (.slice (some ⟨g2, 0, none⟩) (j + 1) gc2)) w2.heap.size (.slice (some ⟨g2, 0, none⟩) (j + 1) gc2) ((c.xs.take (j + 1)).map fewXX)) := HO7.out.move fun g hg _ => heap_setCell_ne w7 ⟨ob, 29, none⟩ _ g (by have := HOB.out; have h3 := HF2.out.size; show g ≠ ob; omega)
                refine hK.out _ _ (⟨(heap_cell_ne w7 ob 29 _ bx 0 HNX.out).trans HX70.out, (heap_cell_ne w7 ob 29 _ bx 1 HNX.out).trans HX71.out⟩) (fun hHeld2 => ?_)
                clear hK K hHeld
                have hHeld := hHeld2
                clear hHeld2
                try simp only [Act.put, List.setIfInBounds_toArray, List.set_cons_zero, List.set_cons_succ]
                refine wpAnyH_done (by kernel_rfl) ?_ _
                refine NoPanic.normal ?_
                clear hHeld hco7 hfo7
                go_wp2_with fail
                try rw [WK.out ((j : Int) + 1) rfl]
                exact ⟨⟨j + 1, some ⟨g2, 0, none⟩, gc2, HK20.out, HKN.out, rfl, HO8.out, HR8.out, HF8.out⟩, by simp [intOf]; have := HKN.out; omega⟩
      · have HKN : Hid (k + 1 ≤ n) := by show _ ≤ _; omega
        have HK20 : Hid (k + 1 ≤ 20) := by show _ ≤ _; omega
        have hk3i : (k : Int) < 20 := by omega
        rcases HAP.out with h0 | ⟨b, off, rfl, hbl, hc⟩
        · rw [HN.out] at h0; omega
        obtain ⟨p, hp⟩ : ∃ p, c.ps[k]? = some p := ⟨_, List.getElem?_eq_getElem (by rw [HN.out]; exact hkl)⟩
        have HP20 : Hid (p.length = 20) := (HIDS.out p (List.mem_of_getElem? hp)).1
        have HIE : Hid ((idE p).toArray = V8 p) := by show _ = _; rw [idE_of HP20.out]; rfl
        have HXR : Hid (∀ W, FrR ob w1 W → W.rangeAt b (off + k * 20) (U8 p)) := fun W hW => by
          have := hW.range (by have := HB2.out.size; omega) (by have := HN1.out; omega) (range_below (hc k p hp) HB2.out hbl)
          rwa [idE_of HP20.out] at this
        have HQ4 := Lib.hid (HXR.out _ HF.out)
        have HT : Hid (c.ps.take (k + 1) = c.ps.take k ++ [p]) := take_snoc hp
        clear hp hbl hc hkn hk
        have hp20 := HQ3.out
        go_wp2_with fail
        have HF6 : Hid (FrR ob w1 (wr.drew.alloc (.cells (idE p).toArray 29))) := HF.out.drew.trans (FrR.of ((Below.refl _ _).alloc (Nat.le_refl _) _))
        have HO6 : Hid (OwnG 20 idE 29 (wr.drew.alloc (.cells (idE p).toArray 29)) w1.heap.size (.slice oa k oc) (c.ps.take k)) := HO.out.below ((Below.refl _ _).drew.alloc (Nat.le_refl _) _)
        have HR6 : Hid ((wr.drew.alloc (.cells (idE p).toArray 29)).heap[ob]? = some (.cells (coA (fewCC c) (.slice oa k oc) (.slice none 0 0)) 34 (0, 0))) := (Below.heap_alloc _ _ _ (Array.getElem?_eq_some_iff.1 HR.out).1).trans HR.out
        have HQ1 := Lib.hid (HPC.out _ HF6.out)
        have HQ2 := Lib.hid (HXR.out _ HF6.out)
        refine wp_region_noPanic ?_
        refine wp_region_held_drew (S := fun W => W.cell? ⟨p0, 20, none⟩ = some (.slice (some ⟨b, off, none⟩) n pc) ∧ W.rangeAt b (off + k * 20) (U8 p)) (by kernel_rfl) ?_ (fun hHeld => ?_)
        · exact ⟨HQ3.out, HQ4.out⟩
        refine tkV 0 (v := ?_) (hw := ?_) (h := ?_)
        rotate_left
        · intro W hSW
          go_simp
          try with_reducible rfl
        try simp only [Act.put, List.setIfInBounds_toArray, List.set_cons_zero, List.set_cons_succ]
        refine tkV 2 (v := ?_) (hw := ?_) (h := ?_)
        rotate_left
        · intro W hSW
          go_simp
          try with_reducible rfl
        try simp only [Act.put, List.setIfInBounds_toArray, List.set_cons_zero, List.set_cons_succ]
        refine tkY 3 (hy := (yieldsIf_load_sl (by rfl) 23 _ rfl p0 20 rfl (.slice (some ⟨b, off, none⟩) n pc) (fun W hSW => hSW.1) Tryz.underlying23)) (h := ?_)
        try simp only [Act.put, List.setIfInBounds_toArray, List.set_cons_zero, List.set_cons_succ]
        refine tkV 4 (v := ?_) (hw := ?_) (h := ?_)
        rotate_left
        · intro W hSW
          go_simp
          try with_reducible rfl
        try simp only [Act.put, List.setIfInBounds_toArray, List.set_cons_zero, List.set_cons_succ]
        refine tkV 5 (v := ?_) (hw := ?_) (h := ?_)
        rotate_left
        · intro W hSW
          go_simp
          try with_reducible rfl
        try simp only [Act.put, List.setIfInBounds_toArray, List.set_cons_zero, List.set_cons_succ]
        refine tkY 6 (hy := (yieldsIf_load_mid (by rfl) 22 _ rfl b (off + k * 20) rfl (U8 p) (.array 20 5) (fun W hSW => hSW.2) Tryz.underlying22 rfl (id20_info8 p HP20.out))) (h := ?_)
        try simp only [Act.put, List.setIfInBounds_toArray, List.set_cons_zero, List.set_cons_succ]
        refine wpAnyH_ready (rs := [1, 7]) (by kernel_rfl) (by simp) ?_
        refine AllReadyH.cons (by simp only [List.getElem?_toArray, List.getElem?_cons_succ, List.getElem?_cons_zero]; rfl) (fun K hK => ?_) (AllReadyH.cons (by simp only [List.getElem?_toArray, List.getElem?_cons_succ, List.getElem?_cons_zero]; rfl) (fun K hK => ?_) AllReadyH.nil)
        · have hcod := (CoRow.of (w := wr.drew) (by exact HR.out) H20.out).pars
          go_simp
          refine hK.out _ _ (⟨HQ3.out, HQ4.out⟩) (fun hHeld2 => ?_)
          clear hK K hHeld
          have hHeld := hHeld2
          clear hHeld2
          try simp only [Act.put, List.setIfInBounds_toArray, List.set_cons_zero, List.set_cons_succ]
          clear hcod
          refine wpAnyH_ready (rs := [7]) (by kernel_rfl) (by simp) ?_
          refine AllReadyH.cons (by simp only [List.getElem?_toArray, List.getElem?_cons_succ, List.getElem?_cons_zero]; rfl) (fun K hK => ?_) AllReadyH.nil
          refine step_slice (by rfl) _ _ _ rfl #[(0, .agg (V8 p))] (map_one _ _ _ rfl) _ _ (slice_G1 elem_id (by decide) (by decide) (by decide) idE_len p (.agg (V8 p)) (by rw [HIE.out]; rfl) _) ?_
          refine hK.out _ _ (⟨HQ1.out, HQ2.out⟩) (fun hHeld2 => ?_)
          clear hK K hHeld
          have hHeld := hHeld2
          clear hHeld2
          try simp only [Act.put, List.setIfInBounds_toArray, List.set_cons_zero, List.set_cons_succ]
          refine wpAnyH_ready (rs := [8]) (by kernel_rfl) (by simp) ?_
          refine AllReadyH.cons (by simp only [List.getElem?_toArray, List.getElem?_cons_succ, List.getElem?_cons_zero]; rfl) (fun K hK => ?_) AllReadyH.nil
          refine step_append_G elem_id idE_len (by decide) (by decide) idE_one (by rfl) _ _ rfl w1.heap.size (.slice oa k oc) (c.ps.take k) k HTL.out rfl HO6.out wr.heap.size 0 1 1 [p] rfl (by decide) rfl (one_G wr.drew _ p) (k + 1) (c.ps.take (k + 1)) rfl HT.out.symm (by have := HK20.out; omega) HF6.out.size ?_
          rintro g2 gc2 w7 ho7 hg7 hgg hgl
          have HO7 := Lib.hid ho7
          have HF7 : Hid (FrR ob w1 w7) := HF6.out.grown hg7 (fun g hg => (HO6.out.lt hg).1)
          have HR7 : Hid (w7.heap[ob]? = some (.cells (coA (fewCC c) (.slice oa k oc) (.slice none 0 0)) 34 (0, 0))) := (hg7.block ob (Array.getElem?_eq_some_iff.1 HR6.out).1 (fun e => by have h1 := (HO6.out.lt e.symm).1; have h2 := HOB.out; omega)).trans HR6.out
          have HP7 : Hid (w7.cell? ⟨p0, 20, none⟩ = some (.slice (some ⟨b, off, none⟩) n pc)) := HPC.out w7 HF7.out
          have HX7 : Hid (w7.rangeAt b (off + k * 20) (U8 p)) := HXR.out w7 HF7.out
          clear ho7 hg7 hgg hgl
          refine hK.out _ _ (⟨HP7.out, HX7.out⟩) (fun hHeld2 => ?_)
          clear hK K hHeld
          have hHeld := hHeld2
          clear hHeld2
          try simp only [Act.put, List.setIfInBounds_toArray, List.set_cons_zero, List.set_cons_succ]
          refine tkV 9 (v := ?_) (hw := ?_) (h := ?_)
          rotate_left
          · intro W hSW
            go_simp
            try with_reducible rfl
          try simp only [Act.put, List.setIfInBounds_toArray, List.set_cons_zero, List.set_cons_succ]
          have hco7 := (CoRow.of HR7.out H20.out).pars
          have hfo7 := frozen_of_row w7 ob 20 _ _ HR7.out
          refine wpAnyH_ready (rs := [10]) (by kernel_rfl) (by simp) ?_
          refine AllReadyH.cons (by simp only [List.getElem?_toArray, List.getElem?_cons_succ, List.getElem?_cons_zero]; rfl) (fun K hK => ?_) AllReadyH.nil
          go_simp
          have HR8 : Hid ((w7.setCell ⟨ob, 20, none⟩ (.slice (some ⟨g2, 0, none⟩) (k + 1) gc2)).heap[ob]? = some (.cells (coA (fewCC c) (.slice (some ⟨g2, 0, none⟩) (k + 1) gc2) (.slice none 0 0)) 34 (0, 0))) := (heap_setCell_same w7 ob 20 _ _ _ HR7.out).trans (by rw [coA_set _ _ _ H20.out 0]; rfl)
          have HF8 : Hid (FrR ob w1 (w7.setCell ⟨ob, 20, none⟩ (.slice (some ⟨g2, 0, none⟩) (k + 1) gc2))) := HF7.out.trans (FrR.setCell ob 20 _ _)
          have HO8 : Hid (OwnG 20 idE 29 (w7.setCell ⟨ob, 20, none⟩ (.slice (some ⟨g2, 0, none⟩) (k + 1) gc2)) w1.heap.size (.slice (some ⟨g2, 0, none⟩) (k + 1) gc2) (c.ps.take (k + 1))) := HO7.out.move fun g hg _ => heap_setCell_ne w7 ⟨ob, 20, none⟩ _ g (by have := HOB.out; show g ≠ ob; omega)
          refine hK.out _ _ (⟨HPC.out _ HF8.out, HXR.out _ HF8.out⟩) (fun hHeld2 => ?_)
          clear hK K hHeld
          have hHeld := hHeld2
          clear hHeld2
          try simp only [Act.put, List.setIfInBounds_toArray, List.set_cons_zero, List.set_cons_succ]
          refine wpAnyH_done (by kernel_rfl) ?_ _
          refine NoPanic.normal ?_
          clear hHeld hco7 hfo7
          go_wp2_with fail
          try rw [WK.out ((k : Int) + 1) rfl]
          exact ⟨⟨k + 1, some ⟨g2, 0, none⟩, gc2, HK20.out, HKN.out, rfl, HO8.out, HR8.out, HF8.out⟩, by simp [intOf]; have := HKN.out; omega⟩
        · refine step_slice (by rfl) _ _ _ rfl #[(0, .agg (V8 p))] (map_one _ _ _ rfl) _ _ (slice_G1 elem_id (by decide) (by decide) (by decide) idE_len p (.agg (V8 p)) (by rw [HIE.out]; rfl) _) ?_
          refine hK.out _ _ (⟨HQ1.out, HQ2.out⟩) (fun hHeld2 => ?_)
          clear hK K hHeld
          have hHeld := hHeld2
          clear hHeld2
          try simp only [Act.put, List.setIfInBounds_toArray, List.set_cons_zero, List.set_cons_succ]
          refine wpAnyH_ready (rs := [1]) (by kernel_rfl) (by simp) ?_
          refine AllReadyH.cons (by simp only [List.getElem?_toArray, List.getElem?_cons_succ, List.getElem?_cons_zero]; rfl) (fun K hK => ?_) AllReadyH.nil
          have hcod := (CoRow.of (w := wr.alloc (.cells (idE p).toArray 29)) (by exact HR6.out) H20.out).pars
          go_simp
          try rw [show (wr.alloc (.cells (idE p).toArray 29)).drew = wr.drew.alloc (.cells (idE p).toArray 29) from rfl]
          refine hK.out _ _ (⟨HQ1.out, HQ2.out⟩) (fun hHeld2 => ?_)
          clear hK K hHeld
          have hHeld := hHeld2
          clear hHeld2
          try simp only [Act.put, List.setIfInBounds_toArray, List.set_cons_zero, List.set_cons_succ]
          clear hcod
          refine wpAnyH_ready (rs := [8]) (by kernel_rfl) (by simp) ?_
          refine AllReadyH.cons (by simp only [List.getElem?_toArray, List.getElem?_cons_succ, List.getElem?_cons_zero]; rfl) (fun K hK => ?_) AllReadyH.nil
          refine step_append_G elem_id idE_len (by decide) (by decide) idE_one (by rfl) _ _ rfl w1.heap.size (.slice oa k oc) (c.ps.take k) k HTL.out rfl HO6.out wr.heap.size 0 1 1 [p] rfl (by decide) rfl (one_G wr.drew _ p) (k + 1) (c.ps.take (k + 1)) rfl HT.out.symm (by have := HK20.out; omega) HF6.out.size ?_
          rintro g2 gc2 w7 ho7 hg7 hgg hgl
          have HO7 := Lib.hid ho7
          have HF7 : Hid (FrR ob w1 w7) := HF6.out.grown hg7 (fun g hg => (HO6.out.lt hg).1)
          have HR7 : Hid (w7.heap[ob]? = some (.cells (coA (fewCC c) (.slice oa k oc) (.slice none 0 0)) 34 (0, 0))) := (hg7.block ob (Array.getElem?_eq_some_iff.1 HR6.out).1 (fun e => by have h1 := (HO6.out.lt e.symm).1; have h2 := HOB.out; omega)).trans HR6.out
          have HP7 : Hid (w7.cell? ⟨p0, 20, none⟩ = some (.slice (some ⟨b, off, none⟩) n pc)) := HPC.out w7 HF7.out
          have HX7 : Hid (w7.rangeAt b (off + k * 20) (U8 p)) := HXR.out w7 HF7.out
          clear ho7 hg7 hgg hgl
          refine hK.out _ _ (⟨HP7.out, HX7.out⟩) (fun hHeld2 => ?_)
          clear hK K hHeld
          have hHeld := hHeld2
          clear hHeld2
          try simp only [Act.put, List.setIfInBounds_toArray, List.set_cons_zero, List.set_cons_succ]
          refine tkV 9 (v := ?_) (hw := ?_) (h := ?_)
          rotate_left
          · intro W hSW
            go_simp
            try with_reducible rfl
          try simp only [Act.put, List.setIfInBounds_toArray, List.set_cons_zero, List.set_cons_succ]
          have hco7 := (CoRow.of HR7.out H20.out).pars
          have hfo7 := frozen_of_row w7 ob 20 _ _ HR7.out
          refine wpAnyH_ready (rs := [10]) (by kernel_rfl) (by simp) ?_
          refine AllReadyH.cons (by simp only [List.getElem?_toArray, List.getElem?_cons_succ, List.getElem?_cons_zero]; rfl) (fun K hK => ?_) AllReadyH.nil
          go_simp
          have HR8 : Hid ((w7.setCell ⟨ob, 20, none⟩ (.slice (some ⟨g2, 0, none⟩) (k + 1) gc2)).heap[ob]? = some (.cells (coA (fewCC c) (.slice (some ⟨g2, 0, none⟩) (k + 1) gc2) (.slice none 0 0)) 34 (0, 0))) := (heap_setCell_same w7 ob 20 _ _ _ HR7.out).trans (by rw [coA_set _ _ _ H20.out 0]; rfl)
          have HF8 : Hid (FrR ob w1 (w7.setCell ⟨ob, 20, none⟩ (.slice (some ⟨g2, 0, none⟩) (k + 1) gc2))) := HF7.out.trans (FrR.setCell ob 20 _ _)
          have HO8 : Hid (OwnG 20 idE 29 (w7.setCell ⟨ob, 20, none⟩ (.slice (some ⟨g2, 0, none⟩) (k + 1) gc2)) w1.heap.size (.slice (some ⟨g2, 0, none⟩) (k + 1) gc2) (c.ps.take (k + 1))) := HO7.out.move fun g hg _ => heap_setCell_ne w7 ⟨ob, 20, none⟩ _ g (by have := HOB.out; show g ≠ ob; omega)
          refine hK.out _ _ (⟨HPC.out _ HF8.out, HXR.out _ HF8.out⟩) (fun hHeld2 => ?_)
          clear hK K hHeld
          have hHeld := hHeld2
          clear hHeld2
          try simp only [Act.put, List.setIfInBounds_toArray, List.set_cons_zero, List.set_cons_succ]
          refine wpAnyH_done (by kernel_rfl) ?_ _
          refine NoPanic.normal ?_
          clear hHeld hco7 hfo7
          go_wp2_with fail
          try rw [WK.out ((k : Int) + 1) rfl]
          exact ⟨⟨k + 1, some ⟨g2, 0, none⟩, gc2, HK20.out, HKN.out, rfl, HO8.out, HR8.out, HF8.out⟩, by simp [intOf]; have := HKN.out; omega⟩
end Go.Proofs.YtkpiinjhcckhfaaGreatDoor
