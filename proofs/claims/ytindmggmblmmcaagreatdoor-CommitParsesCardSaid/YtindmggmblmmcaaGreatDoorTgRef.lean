/- toTag, ofTag, the document's RightTag and PrintTag: the walks; a tag that came in. -/
import Derived.Test.YtindmggmblmmcaaGreatDoorTgWalk
import Derived.Test.YtindmggmblmmcaaGreatDoorCoRPrint
import Derived.Test.YtindmggmblmmcaaGreatDoorCoLawB
namespace Go.Proofs.YtindmggmblmmcaaGreatDoor
open Go.RowKit Plain Go.ChangeShapes Go.WideShapes Go.ChangeAt Go.Great
set_option linter.unusedVariables false
set_option linter.unusedSimpArgs false
def fewT (x : TX) : TX := ⟨x.o, x.k, cutB 200 x.n, fewW x.t, cutB 500 x.m⟩
theorem zero_rtag (W : World) : (zeroValue 54).run Tryz.prog W = .ok (.agg (tgA tz)) W := by kernel_rfl
theorem info_rtag (x : TX) (h : x.o.length = 20) : (Tryz.prog.info? 54).map (·.size) = some (tgL x).length := by rw [tgL_len x h]; kernel_rfl
theorem info_rtagA (x : TX) (h : x.o.length = 20) : (Tryz.prog.info? 54).map (·.size) = some (tgA x).size := by rw [tgA_size x h]; kernel_rfl
theorem built_rtag (a0 a1 a2 a3 a4 a5 a6 a7 a8 a9 a10 a11 a12 a13 a14 a15 a16 a17 a18 a19 k : Int) (n nn mm zz m : ByteArray) (tt : Int) : Tryz.prog.built 54 [(0, .agg #[.int .u8 a0, .int .u8 a1, .int .u8 a2, .int .u8 a3, .int .u8 a4, .int .u8 a5, .int .u8 a6, .int .u8 a7, .int .u8 a8, .int .u8 a9, .int .u8 a10, .int .u8 a11, .int .u8 a12, .int .u8 a13, .int .u8 a14, .int .u8 a15, .int .u8 a16, .int .u8 a17, .int .u8 a18, .int .u8 a19]), (1, .int .i64 k), (2, .string n), (3, .agg #[.string nn, .string mm, .int .i64 tt, .string zz]), (4, .string m)] = some (tgA ⟨[a0, a1, a2, a3, a4, a5, a6, a7, a8, a9, a10, a11, a12, a13, a14, a15, a16, a17, a18, a19], k, n, ⟨nn, mm, tt, zz⟩, m⟩) := by kernel_rfl
theorem build_rtag (x : TX) (h : x.o.length = 20) (W : World) : (Instr.build 54 #[(0, .agg (V8 x.o)), (1, .int .i64 x.k), (2, .string x.n), (3, .agg (whoA x.t)), (4, .string x.m)]).run Tryz.prog W = .ok (.agg (tgA x)) W := by
  obtain ⟨o, k, n, ⟨nn, mm, tt, zz⟩, m⟩ := x
  obtain ⟨a0, a1, a2, a3, a4, a5, a6, a7, a8, a9, a10, a11, a12, a13, a14, a15, a16, a17, a18, a19, rfl⟩ := list20 h
  exact run_build W _ _ _ (built_rtag a0 a1 a2 a3 a4 a5 a6 a7 a8 a9 a10 a11 a12 a13 a14 a15 a16 a17 a18 a19 k n nn mm zz m tt)
/-- A tag that came in. -/
structure InTag (x : TX) : Prop where
  good : TgGood x
  ns : x.n.size ≤ maxLen
  ms : x.m.size ≤ maxLen
  tw : InWho x.t
set_option maxRecDepth 100000 in
theorem open_tag {H : Type} {enc : TypeId × Value → H} {w : World} {base b0 : Nat} {held : Bool} {r : Reach} {v : Value} {d : DataW H} {p : List MemPlace}
    (hv : Value.okWide Tryz.prog w r b0 54 v) (h : DataW.Trod enc Tryz.prog w base (fun _ => true) held 54 v d p) :
    ∃ x : TX, v = .agg (tgA x) ∧ InTag x := by
  have ht := Tryz.underlying54
  simp only [Value.okWide, ht] at hv
  obtain ⟨cs, rfl, hsz, -⟩ := hv
  obtain ⟨fuel, hf⟩ := h
  obtain ⟨ys, n, -, -, -, hyl, hg⟩ := DataW.trod_struct ht hf
  have hC : Tryz.prog.cellsOf 54 = 27 := by kernel_rfl
  have hC1 : Tryz.prog.cellsOf 9 = 1 := by kernel_rfl
  have hC2 : Tryz.prog.cellsOf 22 = 20 := by kernel_rfl
  have hC3 : Tryz.prog.cellsOf 3 = 1 := by kernel_rfl
  have hC7 : Tryz.prog.cellsOf 25 = 4 := by kernel_rfl
  rw [hC] at hsz
  have hl : cs.toList.length = 27 := hsz
  have hyl5 : ys.length = 5 := hyl
  have g0 := hg 0 _ rfl
  have g1 := hg 1 _ rfl
  have g2 := hg 2 _ rfl
  have g3 := hg 3 _ rfl
  have g4 := hg 4 _ rfl
  rw [List.getElem?_eq_getElem (by omega)] at g0 g1 g2 g3 g4
  change DataW.trod enc Tryz.prog w base (fun _ => true) held n 22 ((cs.toList.drop 0).take (Tryz.prog.cellsOf 22)) = some _ at g0
  rw [hC2] at g0
  change DataW.trod enc Tryz.prog w base (fun _ => true) held n 3 ((cs.toList.drop 20).take (Tryz.prog.cellsOf 3)) = some _ at g1
  rw [hC3] at g1
  change DataW.trod enc Tryz.prog w base (fun _ => true) held n 9 ((cs.toList.drop 21).take (Tryz.prog.cellsOf 9)) = some _ at g2
  rw [hC1] at g2
  change DataW.trod enc Tryz.prog w base (fun _ => true) held n 25 ((cs.toList.drop 22).take (Tryz.prog.cellsOf 25)) = some _ at g3
  rw [hC7] at g3
  change DataW.trod enc Tryz.prog w base (fun _ => true) held n 9 ((cs.toList.drop 26).take (Tryz.prog.cellsOf 9)) = some _ at g4
  rw [hC1] at g4
  obtain ⟨N, hN, hNl, hNb⟩ := trod_ids Tryz.underlying22 (by rw [List.length_take, List.length_drop, hl]; rfl) g0
  obtain ⟨K, hK, -, hks⟩ := DataW.trod_int Tryz.underlying3 g1
  obtain ⟨S, hS, -, hss⟩ := DataW.trod_string Tryz.underlying9 g2
  obtain ⟨A, hA, hAi⟩ := trod_who (by rw [List.length_take, List.length_drop, hl]; rfl) g3
  obtain ⟨M, hM, -, hms⟩ := DataW.trod_string Tryz.underlying9 g4
  refine ⟨⟨N, K, S, A, M⟩, ?_, ⟨hNl, hNb⟩, hss, hms, hAi⟩
  congr 1
  apply Array.toList_inj.1
  rw [List.drop_zero] at hN
  have step : ∀ (i : Nat) (u : Value), (cs.toList.drop i).take 1 = [u] → cs.toList.drop i = u :: cs.toList.drop (i + 1) := fun i u h => by
    rw [← List.take_append_drop 1 (cs.toList.drop i), h, List.drop_drop]
    rfl
  have step4 : ∀ (i : Nat) (us : List Value), (cs.toList.drop i).take 4 = us → cs.toList.drop i = us ++ cs.toList.drop (i + 4) := fun i us h => by
    rw [← List.take_append_drop 4 (cs.toList.drop i), h, List.drop_drop]
  have e6 : cs.toList.drop 27 = [] := List.drop_of_length_le (by omega)
  rw [← List.take_append_drop 20 cs.toList, hN, step 20 _ hK, step 21 _ hS, step4 22 _ hA, step 26 _ hM, e6]
  rfl
theorem few_tag {x : TX} (h : InTag x) : TgGood (fewT x) ∧ TgSmall (fewT x) ∧ (printT (fewT x)).length ≤ 15000 := by
  have h1 := cutB_size 200 x.n
  have h2 := cutB_size 500 x.m
  have h3 := few_whoT h.tw
  refine ⟨h.good, ⟨Nat.le_trans h1 (by decide), few_who h.tw, Nat.le_trans h2 (by decide)⟩, ?_⟩
  have h4 := word_len x.k
  have h5 : (hexOf (fewT x).o).length = 40 := by rw [hexOf_length]; show 2 * x.o.length = 40; rw [h.good.1]
  unfold printT kObj kTyp kTag kTgr
  simp only [List.length_append, List.length_cons, List.length_nil, h5]
  rw [← Lib.size_eq, ← Lib.size_eq]
  show _ + (_ + (wordL x.k).length + (_ + (cutB 200 x.n).size + (_ + (whoT (fewW x.t)).length + ((cutB 500 x.m).size + _ + _) + _) + _) + _) ≤ _
  omega
set_option maxRecDepth 100000 in
set_option maxHeartbeats 16000000 in
theorem totag_any (x : TX) (w : World) (h20 : x.o.length = 20) : Calls Tryz.prog 20 #[.agg (tgA x)] w fun e w' => e = .returned (.agg (tgA (fewT x))) ∧ Below w.heap.size w w' := by
  have H20 := Lib.hid h20
  have HF20 : Hid ((fewT x).o.length = 20) := h20
  have hm1 : min (x.n.size : Int) 200 = ((min x.n.size 200 : Nat) : Int) := by omega
  have hs1 : ∀ W, (Instr.slice 9 (.string x.n) none (some (.int .i64 ((min x.n.size 200 : Nat) : Int))) none).run Tryz.prog W = .ok (.string (fewT x).n) W := fun W => slice_front x.n (min x.n.size 200) (by omega) _ rfl W
  have hm2 : min (x.m.size : Int) 500 = ((min x.m.size 500 : Nat) : Int) := by omega
  have hs2 : ∀ W, (Instr.slice 9 (.string x.m) none (some (.int .i64 ((min x.m.size 500 : Nat) : Int))) none).run Tryz.prog W = .ok (.string (fewT x).m) W := fun W => slice_front x.m (min x.m.size 500) (by omega) _ rfl W
  have hzt := zero_tag
  have HB0 : Hid (Below w.heap.size w ((w.alloc (.cells (tgA x) 54)).alloc (.cells (tgA tz) 50))) := ((Below.refl _ _).alloc (Nat.le_refl _) _).alloc (by simp) _
  have HP0 : Hid (((w.alloc (.cells (tgA x) 54)).alloc (.cells (tgA tz) 50)).heap[w.heap.size]? = some (.cells (tgA x) 54 (0, 0))) := (Below.heap_alloc _ _ _ (by simp)).trans (heap_alloc_new _ _)
  have HR0 : Hid (((w.alloc (.cells (tgA x) 54)).alloc (.cells (tgA tz) 50)).heap[w.heap.size + 1]? = some (.cells (tgA tz) 50 (0, 0))) := by
    have h1 := heap_alloc_new (w.alloc (.cells (tgA x) 54)) (.cells (tgA tz) 50)
    rw [show (w.alloc (.cells (tgA x) 54)).heap.size = w.heap.size + 1 by simp] at h1
    exact h1
  clear h20
  go_enter Tryz.func20, Tryz.ntmps20
  go_wp2_with fail
  obtain ⟨w0, hw0⟩ : ∃ W, (w.alloc (.cells (tgA x) 54)).alloc (.cells (tgA tz) 50) = W := ⟨_, rfl⟩
  rw [hw0] at HB0 HP0 HR0 ⊢
  clear hw0
  obtain ⟨p0, hp0⟩ : ∃ b, w.heap.size = b := ⟨_, rfl⟩
  have HPE : Hid (w.heap.size = p0) := hp0
  rw [hp0] at HP0 HR0 ⊢
  obtain ⟨rb, hrb⟩ : ∃ b, p0 + 1 = b := ⟨_, rfl⟩
  rw [hrb] at HR0 ⊢
  have HNE0 : Hid (p0 ≠ rb ∧ p0 < w0.heap.size ∧ rb < w0.heap.size ∧ w.heap.size ≤ p0 ∧ w.heap.size ≤ rb) := by have h1 := (Array.getElem?_eq_some_iff.1 HP0.out).1; have h2 := (Array.getElem?_eq_some_iff.1 HR0.out).1; show _ ∧ _; omega
  clear hp0 hrb
  have HTW : Hid (∀ W, Below w0.heap.size w0 W → TgRow W p0 x) := fun W hW => TgRow.of ((hW.block p0 HNE0.out.2.1).trans HP0.out) H20.out
  have HVD : Hid (Below w0.heap.size w0 w0.drew) := (Below.refl _ _).drew
  refine wp_region_noPanic ?_
  refine wp_region_held_drew (S := fun W => TgRow W p0 x) (by kernel_rfl) ?_ (fun hHeld => ?_)
  · exact HTW.out _ HVD.out
  refine wpAnyH_take (i := 0) (v := ?_) (by simp only [List.getElem?_toArray, List.getElem?_cons_zero]; rfl) (by kernel_rfl) (by kernel_rfl) (by kernel_rfl) (fun _ _ _ h => h) (Or.inl ⟨by rfl, ?_⟩) (by assumption) ?_
  rotate_left
  · intro W hSW
    go_simp
    try with_reducible rfl
  try simp only [Act.put, List.setIfInBounds_toArray, List.set_cons_zero, List.set_cons_succ]
  refine wpAnyH_take (i := 1) (by simp only [List.getElem?_toArray, List.getElem?_cons_succ, List.getElem?_cons_zero]; rfl) (by kernel_rfl) (by kernel_rfl) (by kernel_rfl) (fun _ _ _ h => h) (yieldsIf_load_mid (by rfl) 22 _ rfl p0 0 rfl (U8 x.o) (.array 20 5) (fun W hSW => hSW.obj) Tryz.underlying22 rfl (id20_info8 x.o H20.out)) (by assumption) ?_
  try simp only [Act.put, List.setIfInBounds_toArray, List.set_cons_zero, List.set_cons_succ]
  refine wpAnyH_take (i := 2) (v := ?_) (by simp only [List.getElem?_toArray, List.getElem?_cons_succ, List.getElem?_cons_zero]; rfl) (by kernel_rfl) (by kernel_rfl) (by kernel_rfl) (fun _ _ _ h => h) (Or.inl ⟨by rfl, ?_⟩) (by assumption) ?_
  rotate_left
  · intro W hSW
    go_simp
    try with_reducible rfl
  try simp only [Act.put, List.setIfInBounds_toArray, List.set_cons_zero, List.set_cons_succ]
  refine wpAnyH_take (i := 3) (by simp only [List.getElem?_toArray, List.getElem?_cons_succ, List.getElem?_cons_zero]; rfl) (by kernel_rfl) (by kernel_rfl) (by kernel_rfl) (fun _ _ _ h => h) (yieldsIf_load_int (by rfl) 3 _ rfl p0 20 rfl x.k (fun W hSW => hSW.kind) Tryz.underlying3) (by assumption) ?_
  try simp only [Act.put, List.setIfInBounds_toArray, List.set_cons_zero, List.set_cons_succ]
  refine wpAnyH_take (i := 4) (v := ?_) (by simp only [List.getElem?_toArray, List.getElem?_cons_succ, List.getElem?_cons_zero]; rfl) (by kernel_rfl) (by kernel_rfl) (by kernel_rfl) (fun _ _ _ h => h) (Or.inl ⟨by rfl, ?_⟩) (by assumption) ?_
  rotate_left
  · intro W hSW
    go_simp
    try with_reducible rfl
  try simp only [Act.put, List.setIfInBounds_toArray, List.set_cons_zero, List.set_cons_succ]
  refine wpAnyH_take (i := 5) (by simp only [List.getElem?_toArray, List.getElem?_cons_succ, List.getElem?_cons_zero]; rfl) (by kernel_rfl) (by kernel_rfl) (by kernel_rfl) (fun _ _ _ h => h) (yieldsIf_load_str (by rfl) 9 _ rfl p0 21 rfl x.n (fun W hSW => hSW.name) Tryz.underlying9) (by assumption) ?_
  try simp only [Act.put, List.setIfInBounds_toArray, List.set_cons_zero, List.set_cons_succ]
  refine wpAnyH_take (i := 6) (v := ?_) (by simp only [List.getElem?_toArray, List.getElem?_cons_succ, List.getElem?_cons_zero]; rfl) (by kernel_rfl) (by kernel_rfl) (by kernel_rfl) (fun _ _ _ h => h) (Or.inl ⟨by rfl, ?_⟩) (by assumption) ?_
  rotate_left
  · intro W hSW
    go_simp
    try with_reducible rfl
  try simp only [Act.put, List.setIfInBounds_toArray, List.set_cons_zero, List.set_cons_succ]
  refine wpAnyH_take (i := 7) (by simp only [List.getElem?_toArray, List.getElem?_cons_succ, List.getElem?_cons_zero]; rfl) (by kernel_rfl) (by kernel_rfl) (by kernel_rfl) (fun _ _ _ h => h) (yieldsIf_load_str (by rfl) 9 _ rfl p0 21 rfl x.n (fun W hSW => hSW.name) Tryz.underlying9) (by assumption) ?_
  try simp only [Act.put, List.setIfInBounds_toArray, List.set_cons_zero, List.set_cons_succ]
  refine wpAnyH_take (i := 8) (v := ?_) (by simp only [List.getElem?_toArray, List.getElem?_cons_succ, List.getElem?_cons_zero]; rfl) (by kernel_rfl) (by kernel_rfl) (by kernel_rfl) (fun _ _ _ h => h) (Or.inl ⟨by rfl, ?_⟩) (by assumption) ?_
  rotate_left
  · intro W hSW
    go_simp
    try with_reducible rfl
  try simp only [Act.put, List.setIfInBounds_toArray, List.set_cons_zero, List.set_cons_succ]
  refine wpAnyH_take (i := 9) (v := ?_) (by simp only [List.getElem?_toArray, List.getElem?_cons_succ, List.getElem?_cons_zero]; rfl) (by kernel_rfl) (by kernel_rfl) (by kernel_rfl) (fun _ _ _ h => h) (Or.inl ⟨by rfl, ?_⟩) (by assumption) ?_
  rotate_left
  · intro W hSW
    go_simp
    try with_reducible rfl
  try simp only [Act.put, List.setIfInBounds_toArray, List.set_cons_zero, List.set_cons_succ]
  refine wpAnyH_take (i := 10) (v := ?_) (by simp only [List.getElem?_toArray, List.getElem?_cons_succ, List.getElem?_cons_zero]; rfl) (by kernel_rfl) (by kernel_rfl) (by kernel_rfl) (fun _ _ _ h => h) (Or.inl ⟨by rfl, ?_⟩) (by assumption) ?_
  rotate_left
  · intro W hSW
    go_simp
    try with_reducible rfl
  try simp only [Act.put, List.setIfInBounds_toArray, List.set_cons_zero, List.set_cons_succ]
  refine wpAnyH_take (i := 11) (v := ?_) (by simp only [List.getElem?_toArray, List.getElem?_cons_succ, List.getElem?_cons_zero]; rfl) (by kernel_rfl) (by kernel_rfl) (by kernel_rfl) (fun _ _ _ h => h) (Or.inl ⟨by rfl, ?_⟩) (by assumption) ?_
  rotate_left
  · intro W hSW
    go_simp
    try with_reducible rfl
  try simp only [Act.put, List.setIfInBounds_toArray, List.set_cons_zero, List.set_cons_succ]
  refine wpAnyH_take (i := 12) (by simp only [List.getElem?_toArray, List.getElem?_cons_succ, List.getElem?_cons_zero]; rfl) (by kernel_rfl) (by kernel_rfl) (by kernel_rfl) (fun _ _ _ h => h) (yieldsIf_load_mid (by rfl) 25 _ rfl p0 22 rfl (whoL x.t) _ (fun W hSW => hSW.tagger) Tryz.underlying25 rfl (info_rwhoL x.t)) (by assumption) ?_
  try simp only [Act.put, List.setIfInBounds_toArray, List.set_cons_zero, List.set_cons_succ]
  refine wpAnyH_take (i := 14) (v := ?_) (by simp only [List.getElem?_toArray, List.getElem?_cons_succ, List.getElem?_cons_zero]; rfl) (by kernel_rfl) (by kernel_rfl) (by kernel_rfl) (fun _ _ _ h => h) (Or.inl ⟨by rfl, ?_⟩) (by assumption) ?_
  rotate_left
  · intro W hSW
    go_simp
    try with_reducible rfl
  try simp only [Act.put, List.setIfInBounds_toArray, List.set_cons_zero, List.set_cons_succ]
  refine wpAnyH_take (i := 15) (by simp only [List.getElem?_toArray, List.getElem?_cons_succ, List.getElem?_cons_zero]; rfl) (by kernel_rfl) (by kernel_rfl) (by kernel_rfl) (fun _ _ _ h => h) (yieldsIf_load_str (by rfl) 9 _ rfl p0 26 rfl x.m (fun W hSW => hSW.msg) Tryz.underlying9) (by assumption) ?_
  try simp only [Act.put, List.setIfInBounds_toArray, List.set_cons_zero, List.set_cons_succ]
  refine wpAnyH_take (i := 16) (v := ?_) (by simp only [List.getElem?_toArray, List.getElem?_cons_succ, List.getElem?_cons_zero]; rfl) (by kernel_rfl) (by kernel_rfl) (by kernel_rfl) (fun _ _ _ h => h) (Or.inl ⟨by rfl, ?_⟩) (by assumption) ?_
  rotate_left
  · intro W hSW
    go_simp
    try with_reducible rfl
  try simp only [Act.put, List.setIfInBounds_toArray, List.set_cons_zero, List.set_cons_succ]
  refine wpAnyH_take (i := 17) (by simp only [List.getElem?_toArray, List.getElem?_cons_succ, List.getElem?_cons_zero]; rfl) (by kernel_rfl) (by kernel_rfl) (by kernel_rfl) (fun _ _ _ h => h) (yieldsIf_load_str (by rfl) 9 _ rfl p0 26 rfl x.m (fun W hSW => hSW.msg) Tryz.underlying9) (by assumption) ?_
  try simp only [Act.put, List.setIfInBounds_toArray, List.set_cons_zero, List.set_cons_succ]
  refine wpAnyH_take (i := 18) (v := ?_) (by simp only [List.getElem?_toArray, List.getElem?_cons_succ, List.getElem?_cons_zero]; rfl) (by kernel_rfl) (by kernel_rfl) (by kernel_rfl) (fun _ _ _ h => h) (Or.inl ⟨by rfl, ?_⟩) (by assumption) ?_
  rotate_left
  · intro W hSW
    go_simp
    try with_reducible rfl
  try simp only [Act.put, List.setIfInBounds_toArray, List.set_cons_zero, List.set_cons_succ]
  refine wpAnyH_take (i := 19) (v := ?_) (by simp only [List.getElem?_toArray, List.getElem?_cons_succ, List.getElem?_cons_zero]; rfl) (by kernel_rfl) (by kernel_rfl) (by kernel_rfl) (fun _ _ _ h => h) (Or.inl ⟨by rfl, ?_⟩) (by assumption) ?_
  rotate_left
  · intro W hSW
    go_simp
    try with_reducible rfl
  try simp only [Act.put, List.setIfInBounds_toArray, List.set_cons_zero, List.set_cons_succ]
  refine wpAnyH_take (i := 20) (v := ?_) (by simp only [List.getElem?_toArray, List.getElem?_cons_succ, List.getElem?_cons_zero]; rfl) (by kernel_rfl) (by kernel_rfl) (by kernel_rfl) (fun _ _ _ h => h) (Or.inl ⟨by rfl, ?_⟩) (by assumption) ?_
  rotate_left
  · intro W hSW
    go_simp
    try with_reducible rfl
  try simp only [Act.put, List.setIfInBounds_toArray, List.set_cons_zero, List.set_cons_succ]
  try rw [show (whoL x.t).toArray = whoA x.t from rfl]
  refine wpAnyH_ready (rs := [13]) (by kernel_rfl) (by simp) ?_
  refine AllReadyH.cons (by simp only [List.getElem?_toArray, List.getElem?_cons_succ, List.getElem?_cons_zero]; rfl) (fun K hK => ?_) AllReadyH.nil
  go_simp
  refine (whoin_any x.t _).mono ?_
  rintro e v1 ⟨rfl, hb⟩
  have hv1 : Below w0.heap.size w0 v1 := HVD.out.trans (hb.mono HVD.out.size)
  have HV1 := Lib.hid hv1
  have HZ1 : Hid (v1.heap[rb]? = some (.cells (tgA tz) 50 (0, 0))) := (hv1.block rb HNE0.out.2.2.1).trans HR0.out
  have HS1 : Hid (TgRow (v1.setRow rb (tgA (fewT x))) p0 x) := TgRow.of ((setRow_other _ _ _ _ HNE0.out.1).trans ((hv1.block p0 HNE0.out.2.1).trans HP0.out)) H20.out
  clear hb hv1
  go_wp2_with fail
  refine hK.out _ _ (HTW.out _ HV1.out) (fun hHeld2 => ?_)
  clear hK K hHeld
  have hHeld := hHeld2
  clear hHeld2
  try simp only [Act.put, List.setIfInBounds_toArray, List.set_cons_zero, List.set_cons_succ]
  refine wpAnyH_take (i := 21) (by simp only [List.getElem?_toArray, List.getElem?_cons_succ, List.getElem?_cons_zero]; rfl) (by kernel_rfl) (by kernel_rfl) (by kernel_rfl) (fun _ _ _ h => h) (yieldsIf_build (by rfl) _ _ rfl #[(0, .agg (V8 (fewT x).o)), (1, .int .i64 (fewT x).k), (2, .string (fewT x).n), (3, .agg (whoA (fewT x).t)), (4, .string (fewT x).m)] (map_five' _ _ _ _ _ _ _ _ _ _ _ rfl rfl rfl rfl rfl) (.agg (tgA (fewT x))) (build_tag (fewT x) HF20.out)) (by assumption) ?_
  try simp only [Act.put, List.setIfInBounds_toArray, List.set_cons_zero, List.set_cons_succ]
  refine wpAnyH_ready (rs := [22]) (by kernel_rfl) (by simp) ?_
  refine AllReadyH.cons (by simp only [List.getElem?_toArray, List.getElem?_cons_succ, List.getElem?_cons_zero]; rfl) (fun K hK => ?_) AllReadyH.nil
  refine step_store_row (by rfl) 50 _ _ rfl rb (tgA (fewT x)) rfl rfl 50 (tgA tz) HZ1.out (info_tagA (fewT x) HF20.out) ((tgA_size tz tz_20).trans (tgA_size (fewT x) HF20.out).symm) (tgA_one _) ?_
  refine hK.out _ _ (HS1.out) (fun hHeld2 => ?_)
  clear hK K hHeld
  have hHeld := hHeld2
  clear hHeld2
  try simp only [Act.put, List.setIfInBounds_toArray, List.set_cons_zero, List.set_cons_succ]
  refine wpAnyH_done (by kernel_rfl) ?_ _
  refine NoPanic.normal ?_
  clear hHeld
  go_wp2_with fail
  refine bodyPost_ret (results_cell_row Tryz.results20 _ _ rb 50 (tgA (fewT x)) (0, 0) _ rfl (setRow_heap _ _ _ _ _ _ HZ1.out) Tryz.underlying50 rfl (info_tagA (fewT x) HF20.out)) rfl ⟨rfl, below_setRow (HB0.out.trans (HV1.out.mono HB0.out.size)) HNE0.out.2.2.2.2 _⟩
set_option maxRecDepth 100000 in
set_option maxHeartbeats 16000000 in
theorem oftag_any (x : TX) (w : World) (h20 : x.o.length = 20) : Calls Tryz.prog 19 #[.agg (tgA x)] w fun e w' => e = .returned (.agg (tgA x)) ∧ Below w.heap.size w w' := by
  have H20 := Lib.hid h20
  have HF20 := Lib.hid h20
  have hzt := zero_rtag
  have HB0 : Hid (Below w.heap.size w ((w.alloc (.cells (tgA x) 50)).alloc (.cells (tgA tz) 54))) := ((Below.refl _ _).alloc (Nat.le_refl _) _).alloc (by simp) _
  have HP0 : Hid (((w.alloc (.cells (tgA x) 50)).alloc (.cells (tgA tz) 54)).heap[w.heap.size]? = some (.cells (tgA x) 50 (0, 0))) := (Below.heap_alloc _ _ _ (by simp)).trans (heap_alloc_new _ _)
  have HR0 : Hid (((w.alloc (.cells (tgA x) 50)).alloc (.cells (tgA tz) 54)).heap[w.heap.size + 1]? = some (.cells (tgA tz) 54 (0, 0))) := by
    have h1 := heap_alloc_new (w.alloc (.cells (tgA x) 50)) (.cells (tgA tz) 54)
    rw [show (w.alloc (.cells (tgA x) 50)).heap.size = w.heap.size + 1 by simp] at h1
    exact h1
  clear h20
  go_enter Tryz.func19, Tryz.ntmps19
  go_wp2_with fail
  obtain ⟨w0, hw0⟩ : ∃ W, (w.alloc (.cells (tgA x) 50)).alloc (.cells (tgA tz) 54) = W := ⟨_, rfl⟩
  rw [hw0] at HB0 HP0 HR0 ⊢
  clear hw0
  obtain ⟨p0, hp0⟩ : ∃ b, w.heap.size = b := ⟨_, rfl⟩
  have HPE : Hid (w.heap.size = p0) := hp0
  rw [hp0] at HP0 HR0 ⊢
  obtain ⟨rb, hrb⟩ : ∃ b, p0 + 1 = b := ⟨_, rfl⟩
  rw [hrb] at HR0 ⊢
  have HNE0 : Hid (p0 ≠ rb ∧ p0 < w0.heap.size ∧ rb < w0.heap.size ∧ w.heap.size ≤ p0 ∧ w.heap.size ≤ rb) := by have h1 := (Array.getElem?_eq_some_iff.1 HP0.out).1; have h2 := (Array.getElem?_eq_some_iff.1 HR0.out).1; show _ ∧ _; omega
  clear hp0 hrb
  have HTW : Hid (∀ W, Below w0.heap.size w0 W → TgRow W p0 x) := fun W hW => TgRow.of ((hW.block p0 HNE0.out.2.1).trans HP0.out) H20.out
  have HVD : Hid (Below w0.heap.size w0 w0.drew) := (Below.refl _ _).drew
  refine wp_region_noPanic ?_
  refine wp_region_held_drew (S := fun W => TgRow W p0 x) (by kernel_rfl) ?_ (fun hHeld => ?_)
  · exact HTW.out _ HVD.out
  refine wpAnyH_take (i := 0) (v := ?_) (by simp only [List.getElem?_toArray, List.getElem?_cons_zero]; rfl) (by kernel_rfl) (by kernel_rfl) (by kernel_rfl) (fun _ _ _ h => h) (Or.inl ⟨by rfl, ?_⟩) (by assumption) ?_
  rotate_left
  · intro W hSW
    go_simp
    try with_reducible rfl
  try simp only [Act.put, List.setIfInBounds_toArray, List.set_cons_zero, List.set_cons_succ]
  refine wpAnyH_take (i := 1) (by simp only [List.getElem?_toArray, List.getElem?_cons_succ, List.getElem?_cons_zero]; rfl) (by kernel_rfl) (by kernel_rfl) (by kernel_rfl) (fun _ _ _ h => h) (yieldsIf_load_mid (by rfl) 29 _ rfl p0 0 rfl (U8 x.o) (.array 20 5) (fun W hSW => hSW.obj) Tryz.underlying29 rfl (id_info8 x.o H20.out)) (by assumption) ?_
  try simp only [Act.put, List.setIfInBounds_toArray, List.set_cons_zero, List.set_cons_succ]
  refine wpAnyH_take (i := 2) (v := ?_) (by simp only [List.getElem?_toArray, List.getElem?_cons_succ, List.getElem?_cons_zero]; rfl) (by kernel_rfl) (by kernel_rfl) (by kernel_rfl) (fun _ _ _ h => h) (Or.inl ⟨by rfl, ?_⟩) (by assumption) ?_
  rotate_left
  · intro W hSW
    go_simp
    try with_reducible rfl
  try simp only [Act.put, List.setIfInBounds_toArray, List.set_cons_zero, List.set_cons_succ]
  refine wpAnyH_take (i := 3) (by simp only [List.getElem?_toArray, List.getElem?_cons_succ, List.getElem?_cons_zero]; rfl) (by kernel_rfl) (by kernel_rfl) (by kernel_rfl) (fun _ _ _ h => h) (yieldsIf_load_int (by rfl) 3 _ rfl p0 20 rfl x.k (fun W hSW => hSW.kind) Tryz.underlying3) (by assumption) ?_
  try simp only [Act.put, List.setIfInBounds_toArray, List.set_cons_zero, List.set_cons_succ]
  refine wpAnyH_take (i := 4) (v := ?_) (by simp only [List.getElem?_toArray, List.getElem?_cons_succ, List.getElem?_cons_zero]; rfl) (by kernel_rfl) (by kernel_rfl) (by kernel_rfl) (fun _ _ _ h => h) (Or.inl ⟨by rfl, ?_⟩) (by assumption) ?_
  rotate_left
  · intro W hSW
    go_simp
    try with_reducible rfl
  try simp only [Act.put, List.setIfInBounds_toArray, List.set_cons_zero, List.set_cons_succ]
  refine wpAnyH_take (i := 5) (by simp only [List.getElem?_toArray, List.getElem?_cons_succ, List.getElem?_cons_zero]; rfl) (by kernel_rfl) (by kernel_rfl) (by kernel_rfl) (fun _ _ _ h => h) (yieldsIf_load_str (by rfl) 9 _ rfl p0 21 rfl x.n (fun W hSW => hSW.name) Tryz.underlying9) (by assumption) ?_
  try simp only [Act.put, List.setIfInBounds_toArray, List.set_cons_zero, List.set_cons_succ]
  refine wpAnyH_take (i := 6) (v := ?_) (by simp only [List.getElem?_toArray, List.getElem?_cons_succ, List.getElem?_cons_zero]; rfl) (by kernel_rfl) (by kernel_rfl) (by kernel_rfl) (fun _ _ _ h => h) (Or.inl ⟨by rfl, ?_⟩) (by assumption) ?_
  rotate_left
  · intro W hSW
    go_simp
    try with_reducible rfl
  try simp only [Act.put, List.setIfInBounds_toArray, List.set_cons_zero, List.set_cons_succ]
  refine wpAnyH_take (i := 7) (by simp only [List.getElem?_toArray, List.getElem?_cons_succ, List.getElem?_cons_zero]; rfl) (by kernel_rfl) (by kernel_rfl) (by kernel_rfl) (fun _ _ _ h => h) (yieldsIf_load_mid (by rfl) 31 _ rfl p0 22 rfl (whoL x.t) _ (fun W hSW => hSW.tagger) Tryz.underlying31 rfl (info_whoL x.t)) (by assumption) ?_
  try simp only [Act.put, List.setIfInBounds_toArray, List.set_cons_zero, List.set_cons_succ]
  refine wpAnyH_take (i := 9) (v := ?_) (by simp only [List.getElem?_toArray, List.getElem?_cons_succ, List.getElem?_cons_zero]; rfl) (by kernel_rfl) (by kernel_rfl) (by kernel_rfl) (fun _ _ _ h => h) (Or.inl ⟨by rfl, ?_⟩) (by assumption) ?_
  rotate_left
  · intro W hSW
    go_simp
    try with_reducible rfl
  try simp only [Act.put, List.setIfInBounds_toArray, List.set_cons_zero, List.set_cons_succ]
  refine wpAnyH_take (i := 10) (by simp only [List.getElem?_toArray, List.getElem?_cons_succ, List.getElem?_cons_zero]; rfl) (by kernel_rfl) (by kernel_rfl) (by kernel_rfl) (fun _ _ _ h => h) (yieldsIf_load_str (by rfl) 9 _ rfl p0 26 rfl x.m (fun W hSW => hSW.msg) Tryz.underlying9) (by assumption) ?_
  try simp only [Act.put, List.setIfInBounds_toArray, List.set_cons_zero, List.set_cons_succ]
  try rw [show (whoL x.t).toArray = whoA x.t from rfl]
  refine wpAnyH_ready (rs := [8]) (by kernel_rfl) (by simp) ?_
  refine AllReadyH.cons (by simp only [List.getElem?_toArray, List.getElem?_cons_succ, List.getElem?_cons_zero]; rfl) (fun K hK => ?_) AllReadyH.nil
  go_simp
  refine (whoof_any x.t _).mono ?_
  rintro e v1 ⟨rfl, hb⟩
  have hv1 : Below w0.heap.size w0 v1 := HVD.out.trans (hb.mono HVD.out.size)
  have HV1 := Lib.hid hv1
  have HZ1 : Hid (v1.heap[rb]? = some (.cells (tgA tz) 54 (0, 0))) := (hv1.block rb HNE0.out.2.2.1).trans HR0.out
  have HS1 : Hid (TgRow (v1.setRow rb (tgA x)) p0 x) := TgRow.of ((setRow_other _ _ _ _ HNE0.out.1).trans ((hv1.block p0 HNE0.out.2.1).trans HP0.out)) H20.out
  clear hb hv1
  go_wp2_with fail
  refine hK.out _ _ (HTW.out _ HV1.out) (fun hHeld2 => ?_)
  clear hK K hHeld
  have hHeld := hHeld2
  clear hHeld2
  try simp only [Act.put, List.setIfInBounds_toArray, List.set_cons_zero, List.set_cons_succ]
  refine wpAnyH_take (i := 11) (by simp only [List.getElem?_toArray, List.getElem?_cons_succ, List.getElem?_cons_zero]; rfl) (by kernel_rfl) (by kernel_rfl) (by kernel_rfl) (fun _ _ _ h => h) (yieldsIf_build (by rfl) _ _ rfl #[(0, .agg (V8 x.o)), (1, .int .i64 x.k), (2, .string x.n), (3, .agg (whoA x.t)), (4, .string x.m)] (map_five' _ _ _ _ _ _ _ _ _ _ _ rfl rfl rfl rfl rfl) (.agg (tgA x)) (build_rtag x HF20.out)) (by assumption) ?_
  try simp only [Act.put, List.setIfInBounds_toArray, List.set_cons_zero, List.set_cons_succ]
  refine wpAnyH_ready (rs := [12]) (by kernel_rfl) (by simp) ?_
  refine AllReadyH.cons (by simp only [List.getElem?_toArray, List.getElem?_cons_succ, List.getElem?_cons_zero]; rfl) (fun K hK => ?_) AllReadyH.nil
  refine step_store_row (by rfl) 54 _ _ rfl rb (tgA x) rfl rfl 54 (tgA tz) HZ1.out (info_rtagA x HF20.out) ((tgA_size tz tz_20).trans (tgA_size x HF20.out).symm) (tgA_one _) ?_
  refine hK.out _ _ (HS1.out) (fun hHeld2 => ?_)
  clear hK K hHeld
  have hHeld := hHeld2
  clear hHeld2
  try simp only [Act.put, List.setIfInBounds_toArray, List.set_cons_zero, List.set_cons_succ]
  refine wpAnyH_done (by kernel_rfl) ?_ _
  refine NoPanic.normal ?_
  clear hHeld
  go_wp2_with fail
  refine bodyPost_ret (results_cell_row Tryz.results19 _ _ rb 54 (tgA x) (0, 0) _ rfl (setRow_heap _ _ _ _ _ _ HZ1.out) Tryz.underlying54 rfl (info_rtagA x HF20.out)) rfl ⟨rfl, below_setRow (HB0.out.trans (HV1.out.mono HB0.out.size)) HNE0.out.2.2.2.2 _⟩
set_option maxRecDepth 100000 in
set_option maxHeartbeats 16000000 in
theorem rrighttag_any (x : TX) (w : World) (h20 : x.o.length = 20) (hs : WhoSmall x.t) (hn : x.n.size ≤ 1000000) :
    Calls Tryz.prog 22 #[.agg (tgA x)] w fun e w' => e = .returned (.bool (tagB x)) ∧ Below w.heap.size w w' := by
  have HS := Lib.hid hs
  have HB0 : Hid (Below w.heap.size w (w.alloc (.cells (tgA x) 54))) := (Below.refl _ _).alloc (Nat.le_refl _) _
  have HT0 : Hid (TgRow (w.alloc (.cells (tgA x) 54)) w.heap.size x) := TgRow.of (heap_alloc_new _ _) h20
  have hk0 := HT0.out.kind
  have hn0 := HT0.out.name
  obtain ⟨e1, he1⟩ : ∃ b, (wordL x.k == []) = b := ⟨_, rfl⟩
  obtain ⟨e2, he2⟩ : ∃ b, (x.n.data.toList == []) = b := ⟨_, rfl⟩
  obtain ⟨e3, he3⟩ : ∃ b, hasB [10] x.n.data.toList = b := ⟨_, rfl⟩
  have HQ1 : Hid (∀ W, (binOp .neq 9 (.string (wordAt x.k)) (.string ⟨#[]⟩)).run Tryz.prog W = .ok (.bool (!e1)) W) := fun W => by rw [str_neq]; exact congrArg (fun b => Result.ok (Value.bool (!b)) W) he1
  have HQ2 : Hid (∀ W, (binOp .neq 9 (.string x.n) (.string ⟨#[]⟩)).run Tryz.prog W = .ok (.bool (!e2)) W) := fun W => by rw [str_neq]; exact congrArg (fun b => Result.ok (Value.bool (!b)) W) he2
  have HCO : Hid (∀ W, Calls Tryz.prog 55 #[.string x.n, .string ⟨#[10]⟩] W fun e w' => e = .returned (.bool e3) ∧ Below W.heap.size W w') := fun W => by
    have h := has_any x.n.data.toList [10] W (by rw [← Lib.size_eq]; exact hn) (by decide)
    rw [txt_of, he3] at h
    exact h
  have HR : Hid (tagB x = (!e1 && !e2 && !e3 && whoB x.t)) := by show _ = _; unfold tagB; rw [he1, he2, ← he3]; rfl
  clear he1 he2 he3 hs hn
  go_enter Tryz.func22, Tryz.ntmps22
  go_wp2_with fail
  refine (refWord_any x.k _).mono ?_
  rintro e w1 ⟨rfl, rfl⟩
  cases e1
  rotate_left
  · have HF : Hid (tagB x = false) := by show _ = _; rw [HR.out]; rfl
    go_wp2_with (first
      | refine wpList_eql (by rfl) .neq 9 _ _ _ rfl (.string (wordAt x.k)) (.string ⟨#[]⟩) rfl rfl (.bool false) (guard_ne _ _ _ _) HQ1.out ?_)
    go_ret
    exact ⟨by rw [HF.out] <;> rfl, HB0.out⟩
  cases e2
  rotate_left
  · have HF : Hid (tagB x = false) := by show _ = _; rw [HR.out]; rfl
    go_wp2_with (first
      | refine wpList_eql (by rfl) .neq 9 _ _ _ rfl (.string (wordAt x.k)) (.string ⟨#[]⟩) rfl rfl (.bool true) (guard_ne _ _ _ _) HQ1.out ?_
      | refine wpList_eql (by rfl) .neq 9 _ _ _ rfl (.string x.n) (.string ⟨#[]⟩) rfl rfl (.bool false) (guard_ne _ _ _ _) HQ2.out ?_)
    go_ret
    exact ⟨by rw [HF.out] <;> rfl, HB0.out⟩
  go_wp2_with (first
    | refine wpList_eql (by rfl) .neq 9 _ _ _ rfl (.string (wordAt x.k)) (.string ⟨#[]⟩) rfl rfl (.bool true) (guard_ne _ _ _ _) HQ1.out ?_
    | refine wpList_eql (by rfl) .neq 9 _ _ _ rfl (.string x.n) (.string ⟨#[]⟩) rfl rfl (.bool true) (guard_ne _ _ _ _) HQ2.out ?_)
  clear hk0 hn0
  refine (HCO.out _).mono ?_
  rintro e w2 ⟨rfl, hb⟩
  have HB2 := Lib.hid (HB0.out.trans (hb.mono HB0.out.size))
  have HT2 := Lib.hid (HT0.out.below (by simp) hb)
  clear hb
  cases e3
  rotate_left
  · have HF : Hid (tagB x = false) := by show _ = _; rw [HR.out]; rfl
    go_wp2_with fail
    go_ret
    exact ⟨by rw [HF.out] <;> rfl, HB2.out⟩
  have HF : Hid (tagB x = whoB x.t) := by show _ = _; rw [HR.out]; rfl
  go_wp2_with (first
    | refine wpList_load_mid_g rfl 25 _ rfl w.heap.size 22 rfl (whoL x.t) _ HT2.out.tagger Tryz.underlying25 rfl (info_rwhoL x.t) ?_)
  refine (rperson_any x.t _ HS.out).mono ?_
  rintro e w4 ⟨rfl, hb⟩
  have HB4 := Lib.hid (HB2.out.trans (hb.mono HB2.out.size))
  clear hb
  go_wp2_with fail
  go_ret
  exact ⟨by rw [HF.out] <;> rfl, HB4.out⟩
set_option maxRecDepth 100000 in
set_option maxHeartbeats 32000000 in
theorem rprinttag_any (x : TX) (w : World) (hg : TgGood x) (hs : WhoSmall x.t) (hE : EnvC w) (hl : (printT x).length ≤ 1000000) :
    Calls Tryz.prog 23 #[.agg (tgA x)] w fun e w' => e = .returned (.string (txt (printT x))) ∧ Below w.heap.size w w' := by
  have HS := Lib.hid hs
  have H20 := Lib.hid hg.1
  have HBYT := Lib.hid hg.2
  have HE := Lib.hid hE
  have HWT : Hid (wordAt x.k = txt (wordL x.k)) := by show _ = _; unfold wordL; rw [txt_of]
  obtain ⟨A1, hA1⟩ : ∃ l, [111, 98, 106, 101, 99, 116, 32] ++ hexOf x.o = l := ⟨_, rfl⟩
  obtain ⟨A2, hA2⟩ : ∃ l, A1 ++ [10] = l := ⟨_, rfl⟩
  obtain ⟨A3, hA3⟩ : ∃ l, A2 ++ [116, 121, 112, 101, 32] = l := ⟨_, rfl⟩
  obtain ⟨A4, hA4⟩ : ∃ l, A3 ++ wordL x.k = l := ⟨_, rfl⟩
  obtain ⟨A5, hA5⟩ : ∃ l, A4 ++ [10] = l := ⟨_, rfl⟩
  obtain ⟨A6, hA6⟩ : ∃ l, A5 ++ [116, 97, 103, 32] = l := ⟨_, rfl⟩
  obtain ⟨A7, hA7⟩ : ∃ l, A6 ++ x.n.data.toList = l := ⟨_, rfl⟩
  obtain ⟨A8, hA8⟩ : ∃ l, A7 ++ [10] = l := ⟨_, rfl⟩
  obtain ⟨A9, hA9⟩ : ∃ l, A8 ++ [116, 97, 103, 103, 101, 114, 32] = l := ⟨_, rfl⟩
  obtain ⟨A10, hA10⟩ : ∃ l, A9 ++ whoT x.t = l := ⟨_, rfl⟩
  obtain ⟨A11, hA11⟩ : ∃ l, A10 ++ [10, 10] = l := ⟨_, rfl⟩
  obtain ⟨A12, hA12⟩ : ∃ l, A11 ++ x.m.data.toList = l := ⟨_, rfl⟩
  have hP : A12 = printT x := by
    rw [← hA12, ← hA11, ← hA10, ← hA9, ← hA8, ← hA7, ← hA6, ← hA5, ← hA4, ← hA3, ← hA2, ← hA1]
    unfold printT kObj kTyp kTag kTgr
    simp
  have hPl : A12.length ≤ 1000000 := by rw [hP]; exact hl
  have l1 : A1.length = 7 + 40 := by rw [← hA1, List.length_append, hexOf_length, hg.1]; rfl
  have l2 : A2.length = A1.length + 1 := by rw [← hA2, List.length_append]; rfl
  have l3 : A3.length = A2.length + 5 := by rw [← hA3, List.length_append]; rfl
  have l4 : A4.length = A3.length + (wordL x.k).length := by rw [← hA4, List.length_append]
  have l5 : A5.length = A4.length + 1 := by rw [← hA5, List.length_append]; rfl
  have l6 : A6.length = A5.length + 4 := by rw [← hA6, List.length_append]; rfl
  have l7 : A7.length = A6.length + x.n.data.toList.length := by rw [← hA7, List.length_append]
  have l8 : A8.length = A7.length + 1 := by rw [← hA8, List.length_append]; rfl
  have l9 : A9.length = A8.length + 7 := by rw [← hA9, List.length_append]; rfl
  have l10 : A10.length = A9.length + (whoT x.t).length := by rw [← hA10, List.length_append]
  have l11 : A11.length = A10.length + 2 := by rw [← hA11, List.length_append]; rfl
  have l12 : A12.length = A11.length + x.m.data.toList.length := by rw [← hA12, List.length_append]
  have HA1 : Hid (∀ W, (binOp .add 9 (.string ⟨#[111, 98, 106, 101, 99, 116, 32]⟩) (.string (txt (hexOf x.o)))).run Tryz.prog W = .ok (.string (txt A1)) W) := fun W => add_txt _ _ _ (by rw [txt_list]; exact hA1) (by rw [txt_size, hexOf_length, hg.1]; decide) W
  have HA2 : Hid (∀ W, (binOp .add 9 (.string (txt A1)) (.string ⟨#[10]⟩)).run Tryz.prog W = .ok (.string (txt A2)) W) := fun W => add_txt _ _ _ (by rw [txt_list]; exact hA2) (by rw [txt_size]; show _ + 1 ≤ _; omega) W
  have HA3 : Hid (∀ W, (binOp .add 9 (.string (txt A2)) (.string ⟨#[116, 121, 112, 101, 32]⟩)).run Tryz.prog W = .ok (.string (txt A3)) W) := fun W => add_txt _ _ _ (by rw [txt_list]; exact hA3) (by rw [txt_size]; show _ + 5 ≤ _; omega) W
  have HA4 : Hid (∀ W, (binOp .add 9 (.string (txt A3)) (.string (txt (wordL x.k)))).run Tryz.prog W = .ok (.string (txt A4)) W) := fun W => add_txt _ _ _ (by rw [txt_list, txt_list]; exact hA4) (by rw [txt_size, txt_size]; omega) W
  have HA5 : Hid (∀ W, (binOp .add 9 (.string (txt A4)) (.string ⟨#[10]⟩)).run Tryz.prog W = .ok (.string (txt A5)) W) := fun W => add_txt _ _ _ (by rw [txt_list]; exact hA5) (by rw [txt_size]; show _ + 1 ≤ _; omega) W
  have HA6 : Hid (∀ W, (binOp .add 9 (.string (txt A5)) (.string ⟨#[116, 97, 103, 32]⟩)).run Tryz.prog W = .ok (.string (txt A6)) W) := fun W => add_txt _ _ _ (by rw [txt_list]; exact hA6) (by rw [txt_size]; show _ + 4 ≤ _; omega) W
  have HA7 : Hid (∀ W, (binOp .add 9 (.string (txt A6)) (.string x.n)).run Tryz.prog W = .ok (.string (txt A7)) W) := fun W => add_txt _ _ _ (by rw [txt_list]; exact hA7) (by rw [txt_size, Lib.size_eq]; omega) W
  have HA8 : Hid (∀ W, (binOp .add 9 (.string (txt A7)) (.string ⟨#[10]⟩)).run Tryz.prog W = .ok (.string (txt A8)) W) := fun W => add_txt _ _ _ (by rw [txt_list]; exact hA8) (by rw [txt_size]; show _ + 1 ≤ _; omega) W
  have HA9 : Hid (∀ W, (binOp .add 9 (.string (txt A8)) (.string ⟨#[116, 97, 103, 103, 101, 114, 32]⟩)).run Tryz.prog W = .ok (.string (txt A9)) W) := fun W => add_txt _ _ _ (by rw [txt_list]; exact hA9) (by rw [txt_size]; show _ + 7 ≤ _; omega) W
  have HA10 : Hid (∀ W, (binOp .add 9 (.string (txt A9)) (.string (txt (whoT x.t)))).run Tryz.prog W = .ok (.string (txt A10)) W) := fun W => add_txt _ _ _ (by rw [txt_list, txt_list]; exact hA10) (by rw [txt_size, txt_size]; omega) W
  have HA11 : Hid (∀ W, (binOp .add 9 (.string (txt A10)) (.string ⟨#[10, 10]⟩)).run Tryz.prog W = .ok (.string (txt A11)) W) := fun W => add_txt _ _ _ (by rw [txt_list]; exact hA11) (by rw [txt_size]; show _ + 2 ≤ _; omega) W
  have HA12 : Hid (∀ W, (binOp .add 9 (.string (txt A11)) (.string x.m)).run Tryz.prog W = .ok (.string (txt A12)) W) := fun W => add_txt _ _ _ (by rw [txt_list]; exact hA12) (by rw [txt_size, Lib.size_eq]; omega) W
  have HP := Lib.hid hP
  have HB0 : Hid (Below w.heap.size w (w.alloc (.cells (tgA x) 54))) := (Below.refl _ _).alloc (Nat.le_refl _) _
  have HP0 : Hid ((w.alloc (.cells (tgA x) 54)).heap[w.heap.size]? = some (.cells (tgA x) 54 (0, 0))) := heap_alloc_new _ _
  clear hg hs hE hl hP hPl hA1 hA2 hA3 hA4 hA5 hA6 hA7 hA8 hA9 hA10 hA11 hA12 l1 l2 l3 l4 l5 l6 l7 l8 l9 l10 l11 l12
  go_enter Tryz.func23, Tryz.ntmps23
  go_wp2_with fail
  obtain ⟨w0, hw0⟩ : ∃ W, (w.alloc (.cells (tgA x) 54)) = W := ⟨_, rfl⟩
  rw [hw0] at HB0 HP0 ⊢
  clear hw0
  obtain ⟨p0, hp0⟩ : ∃ b, w.heap.size = b := ⟨_, rfl⟩
  have HPE : Hid (w.heap.size = p0) := hp0
  rw [hp0] at HP0 ⊢
  clear hp0
  have HTW : Hid (∀ W, Below w0.heap.size w0 W → TgRow W p0 x) := fun W hW => TgRow.of ((hW.block p0 (Array.getElem?_eq_some_iff.1 HP0.out).1).trans HP0.out) H20.out
  have HVD : Hid (Below w0.heap.size w0 w0.drew) := (Below.refl _ _).drew
  have HEW : Hid (∀ W, Below w0.heap.size w0 W → EnvC W) := fun W hW => HE.out.below (HB0.out.trans (hW.mono HB0.out.size))
  refine wp_region_noPanic ?_
  refine wp_region_held_drew (S := fun W => Below w0.heap.size w0 W) (by kernel_rfl) ?_ (fun hHeld => ?_)
  · exact HVD.out
  refine wpAnyH_take (i := 0) (v := ?_) (by simp only [List.getElem?_toArray, List.getElem?_cons_zero]; rfl) (by kernel_rfl) (by kernel_rfl) (by kernel_rfl) (fun _ _ _ h => h) (Or.inl ⟨by rfl, ?_⟩) (by assumption) ?_
  rotate_left
  · intro W hSW
    go_simp
    try with_reducible rfl
  try simp only [Act.put, List.setIfInBounds_toArray, List.set_cons_zero, List.set_cons_succ]
  refine wpAnyH_take (i := 1) (by simp only [List.getElem?_toArray, List.getElem?_cons_succ, List.getElem?_cons_zero]; rfl) (by kernel_rfl) (by kernel_rfl) (by kernel_rfl) (fun _ _ _ h => h) (yieldsIf_load_mid (by rfl) 22 _ rfl p0 0 rfl (U8 x.o) (.array 20 5) (fun W hSW => (HTW.out W hSW).obj) Tryz.underlying22 rfl (id20_info8 x.o H20.out)) (by assumption) ?_
  try simp only [Act.put, List.setIfInBounds_toArray, List.set_cons_zero, List.set_cons_succ]
  refine wpAnyH_take (i := 6) (v := ?_) (by simp only [List.getElem?_toArray, List.getElem?_cons_succ, List.getElem?_cons_zero]; rfl) (by kernel_rfl) (by kernel_rfl) (by kernel_rfl) (fun _ _ _ h => h) (Or.inl ⟨by rfl, ?_⟩) (by assumption) ?_
  rotate_left
  · intro W hSW
    go_simp
    try with_reducible rfl
  try simp only [Act.put, List.setIfInBounds_toArray, List.set_cons_zero, List.set_cons_succ]
  refine wpAnyH_take (i := 7) (by simp only [List.getElem?_toArray, List.getElem?_cons_succ, List.getElem?_cons_zero]; rfl) (by kernel_rfl) (by kernel_rfl) (by kernel_rfl) (fun _ _ _ h => h) (yieldsIf_load_int (by rfl) 3 _ rfl p0 20 rfl x.k (fun W hSW => (HTW.out W hSW).kind) Tryz.underlying3) (by assumption) ?_
  try simp only [Act.put, List.setIfInBounds_toArray, List.set_cons_zero, List.set_cons_succ]
  refine wpAnyH_take (i := 12) (v := ?_) (by simp only [List.getElem?_toArray, List.getElem?_cons_succ, List.getElem?_cons_zero]; rfl) (by kernel_rfl) (by kernel_rfl) (by kernel_rfl) (fun _ _ _ h => h) (Or.inl ⟨by rfl, ?_⟩) (by assumption) ?_
  rotate_left
  · intro W hSW
    go_simp
    try with_reducible rfl
  try simp only [Act.put, List.setIfInBounds_toArray, List.set_cons_zero, List.set_cons_succ]
  refine wpAnyH_take (i := 13) (by simp only [List.getElem?_toArray, List.getElem?_cons_succ, List.getElem?_cons_zero]; rfl) (by kernel_rfl) (by kernel_rfl) (by kernel_rfl) (fun _ _ _ h => h) (yieldsIf_load_str (by rfl) 9 _ rfl p0 21 rfl x.n (fun W hSW => (HTW.out W hSW).name) Tryz.underlying9) (by assumption) ?_
  try simp only [Act.put, List.setIfInBounds_toArray, List.set_cons_zero, List.set_cons_succ]
  refine wpAnyH_take (i := 17) (v := ?_) (by simp only [List.getElem?_toArray, List.getElem?_cons_succ, List.getElem?_cons_zero]; rfl) (by kernel_rfl) (by kernel_rfl) (by kernel_rfl) (fun _ _ _ h => h) (Or.inl ⟨by rfl, ?_⟩) (by assumption) ?_
  rotate_left
  · intro W hSW
    go_simp
    try with_reducible rfl
  try simp only [Act.put, List.setIfInBounds_toArray, List.set_cons_zero, List.set_cons_succ]
  refine wpAnyH_take (i := 18) (by simp only [List.getElem?_toArray, List.getElem?_cons_succ, List.getElem?_cons_zero]; rfl) (by kernel_rfl) (by kernel_rfl) (by kernel_rfl) (fun _ _ _ h => h) (yieldsIf_load_mid (by rfl) 25 _ rfl p0 22 rfl (whoL x.t) _ (fun W hSW => (HTW.out W hSW).tagger) Tryz.underlying25 rfl (info_rwhoL x.t)) (by assumption) ?_
  try simp only [Act.put, List.setIfInBounds_toArray, List.set_cons_zero, List.set_cons_succ]
  refine wpAnyH_take (i := 22) (v := ?_) (by simp only [List.getElem?_toArray, List.getElem?_cons_succ, List.getElem?_cons_zero]; rfl) (by kernel_rfl) (by kernel_rfl) (by kernel_rfl) (fun _ _ _ h => h) (Or.inl ⟨by rfl, ?_⟩) (by assumption) ?_
  rotate_left
  · intro W hSW
    go_simp
    try with_reducible rfl
  try simp only [Act.put, List.setIfInBounds_toArray, List.set_cons_zero, List.set_cons_succ]
  refine wpAnyH_take (i := 23) (by simp only [List.getElem?_toArray, List.getElem?_cons_succ, List.getElem?_cons_zero]; rfl) (by kernel_rfl) (by kernel_rfl) (by kernel_rfl) (fun _ _ _ h => h) (yieldsIf_load_str (by rfl) 9 _ rfl p0 26 rfl x.m (fun W hSW => (HTW.out W hSW).msg) Tryz.underlying9) (by assumption) ?_
  try simp only [Act.put, List.setIfInBounds_toArray, List.set_cons_zero, List.set_cons_succ]
  try rw [show (whoL x.t).toArray = whoA x.t from rfl]
  refine wpAnyH_ready (rs := [2]) (by kernel_rfl) (by simp) ?_
  refine AllReadyH.cons (by simp only [List.getElem?_toArray, List.getElem?_cons_succ, List.getElem?_cons_zero]; rfl) (fun K hK => ?_) AllReadyH.nil
  go_simp
  refine (rhex_any x.o _ H20.out HBYT.out).mono ?_
  rintro e v1 ⟨rfl, hb⟩
  have hv1 : Below w0.heap.size w0 v1 := HVD.out.trans (hb.mono HVD.out.size)
  have HV1 := Lib.hid hv1
  clear hb hv1
  go_wp2_with fail
  refine hK.out _ _ (HV1.out) (fun hHeld2 => ?_)
  clear hK K hHeld
  have hHeld := hHeld2
  clear hHeld2
  try simp only [Act.put, List.setIfInBounds_toArray, List.set_cons_zero, List.set_cons_succ]
  refine wpAnyH_take (i := 3) (by simp only [List.getElem?_toArray, List.getElem?_cons_succ, List.getElem?_cons_zero]; rfl) (by kernel_rfl) (by kernel_rfl) (by kernel_rfl) (fun _ _ _ h => h) (yieldsIf_eql (by rfl) .add 9 _ _ _ rfl (.string ⟨#[111, 98, 106, 101, 99, 116, 32]⟩) (.string (txt (hexOf x.o))) rfl rfl (.string (txt A1)) (guard_addn _ _ _ _) HA1.out) (by assumption) ?_
  try simp only [Act.put, List.setIfInBounds_toArray, List.set_cons_zero, List.set_cons_succ]
  refine wpAnyH_take (i := 4) (by simp only [List.getElem?_toArray, List.getElem?_cons_succ, List.getElem?_cons_zero]; rfl) (by kernel_rfl) (by kernel_rfl) (by kernel_rfl) (fun _ _ _ h => h) (yieldsIf_eql (by rfl) .add 9 _ _ _ rfl (.string (txt A1)) (.string ⟨#[10]⟩) rfl rfl (.string (txt A2)) (guard_addn _ _ _ _) HA2.out) (by assumption) ?_
  try simp only [Act.put, List.setIfInBounds_toArray, List.set_cons_zero, List.set_cons_succ]
  refine wpAnyH_take (i := 5) (by simp only [List.getElem?_toArray, List.getElem?_cons_succ, List.getElem?_cons_zero]; rfl) (by kernel_rfl) (by kernel_rfl) (by kernel_rfl) (fun _ _ _ h => h) (yieldsIf_eql (by rfl) .add 9 _ _ _ rfl (.string (txt A2)) (.string ⟨#[116, 121, 112, 101, 32]⟩) rfl rfl (.string (txt A3)) (guard_addn _ _ _ _) HA3.out) (by assumption) ?_
  try simp only [Act.put, List.setIfInBounds_toArray, List.set_cons_zero, List.set_cons_succ]
  refine wpAnyH_ready (rs := [8]) (by kernel_rfl) (by simp) ?_
  refine AllReadyH.cons (by simp only [List.getElem?_toArray, List.getElem?_cons_succ, List.getElem?_cons_zero]; rfl) (fun K hK => ?_) AllReadyH.nil
  go_simp
  refine (refWord_any x.k _).mono ?_
  rintro e v2 ⟨rfl, rfl⟩
  go_wp2_with fail
  refine hK.out _ _ (HV1.out) (fun hHeld2 => ?_)
  clear hK K hHeld
  have hHeld := hHeld2
  clear hHeld2
  try simp only [Act.put, List.setIfInBounds_toArray, List.set_cons_zero, List.set_cons_succ]
  try rw [HWT.out]
  refine wpAnyH_take (i := 9) (by simp only [List.getElem?_toArray, List.getElem?_cons_succ, List.getElem?_cons_zero]; rfl) (by kernel_rfl) (by kernel_rfl) (by kernel_rfl) (fun _ _ _ h => h) (yieldsIf_eql (by rfl) .add 9 _ _ _ rfl (.string (txt A3)) (.string (txt (wordL x.k))) rfl rfl (.string (txt A4)) (guard_addn _ _ _ _) HA4.out) (by assumption) ?_
  try simp only [Act.put, List.setIfInBounds_toArray, List.set_cons_zero, List.set_cons_succ]
  refine wpAnyH_take (i := 10) (by simp only [List.getElem?_toArray, List.getElem?_cons_succ, List.getElem?_cons_zero]; rfl) (by kernel_rfl) (by kernel_rfl) (by kernel_rfl) (fun _ _ _ h => h) (yieldsIf_eql (by rfl) .add 9 _ _ _ rfl (.string (txt A4)) (.string ⟨#[10]⟩) rfl rfl (.string (txt A5)) (guard_addn _ _ _ _) HA5.out) (by assumption) ?_
  try simp only [Act.put, List.setIfInBounds_toArray, List.set_cons_zero, List.set_cons_succ]
  refine wpAnyH_take (i := 11) (by simp only [List.getElem?_toArray, List.getElem?_cons_succ, List.getElem?_cons_zero]; rfl) (by kernel_rfl) (by kernel_rfl) (by kernel_rfl) (fun _ _ _ h => h) (yieldsIf_eql (by rfl) .add 9 _ _ _ rfl (.string (txt A5)) (.string ⟨#[116, 97, 103, 32]⟩) rfl rfl (.string (txt A6)) (guard_addn _ _ _ _) HA6.out) (by assumption) ?_
  try simp only [Act.put, List.setIfInBounds_toArray, List.set_cons_zero, List.set_cons_succ]
  refine wpAnyH_take (i := 14) (by simp only [List.getElem?_toArray, List.getElem?_cons_succ, List.getElem?_cons_zero]; rfl) (by kernel_rfl) (by kernel_rfl) (by kernel_rfl) (fun _ _ _ h => h) (yieldsIf_eql (by rfl) .add 9 _ _ _ rfl (.string (txt A6)) (.string x.n) rfl rfl (.string (txt A7)) (guard_addn _ _ _ _) HA7.out) (by assumption) ?_
  try simp only [Act.put, List.setIfInBounds_toArray, List.set_cons_zero, List.set_cons_succ]
  refine wpAnyH_take (i := 15) (by simp only [List.getElem?_toArray, List.getElem?_cons_succ, List.getElem?_cons_zero]; rfl) (by kernel_rfl) (by kernel_rfl) (by kernel_rfl) (fun _ _ _ h => h) (yieldsIf_eql (by rfl) .add 9 _ _ _ rfl (.string (txt A7)) (.string ⟨#[10]⟩) rfl rfl (.string (txt A8)) (guard_addn _ _ _ _) HA8.out) (by assumption) ?_
  try simp only [Act.put, List.setIfInBounds_toArray, List.set_cons_zero, List.set_cons_succ]
  refine wpAnyH_take (i := 16) (by simp only [List.getElem?_toArray, List.getElem?_cons_succ, List.getElem?_cons_zero]; rfl) (by kernel_rfl) (by kernel_rfl) (by kernel_rfl) (fun _ _ _ h => h) (yieldsIf_eql (by rfl) .add 9 _ _ _ rfl (.string (txt A8)) (.string ⟨#[116, 97, 103, 103, 101, 114, 32]⟩) rfl rfl (.string (txt A9)) (guard_addn _ _ _ _) HA9.out) (by assumption) ?_
  try simp only [Act.put, List.setIfInBounds_toArray, List.set_cons_zero, List.set_cons_succ]
  refine wpAnyH_ready (rs := [19]) (by kernel_rfl) (by simp) ?_
  refine AllReadyH.cons (by simp only [List.getElem?_toArray, List.getElem?_cons_succ, List.getElem?_cons_zero]; rfl) (fun K hK => ?_) AllReadyH.nil
  go_simp
  refine (rtext_any x.t _ (HEW.out _ HV1.out) HS.out).mono ?_
  rintro e v3 ⟨rfl, hb⟩
  have hv3 : Below w0.heap.size w0 v3 := HV1.out.trans (hb.mono HV1.out.size)
  have HV3 := Lib.hid hv3
  clear hb hv3
  go_wp2_with fail
  refine hK.out _ _ (HV3.out) (fun hHeld2 => ?_)
  clear hK K hHeld
  have hHeld := hHeld2
  clear hHeld2
  try simp only [Act.put, List.setIfInBounds_toArray, List.set_cons_zero, List.set_cons_succ]
  refine wpAnyH_take (i := 20) (by simp only [List.getElem?_toArray, List.getElem?_cons_succ, List.getElem?_cons_zero]; rfl) (by kernel_rfl) (by kernel_rfl) (by kernel_rfl) (fun _ _ _ h => h) (yieldsIf_eql (by rfl) .add 9 _ _ _ rfl (.string (txt A9)) (.string (txt (whoT x.t))) rfl rfl (.string (txt A10)) (guard_addn _ _ _ _) HA10.out) (by assumption) ?_
  try simp only [Act.put, List.setIfInBounds_toArray, List.set_cons_zero, List.set_cons_succ]
  refine wpAnyH_take (i := 21) (by simp only [List.getElem?_toArray, List.getElem?_cons_succ, List.getElem?_cons_zero]; rfl) (by kernel_rfl) (by kernel_rfl) (by kernel_rfl) (fun _ _ _ h => h) (yieldsIf_eql (by rfl) .add 9 _ _ _ rfl (.string (txt A10)) (.string ⟨#[10, 10]⟩) rfl rfl (.string (txt A11)) (guard_addn _ _ _ _) HA11.out) (by assumption) ?_
  try simp only [Act.put, List.setIfInBounds_toArray, List.set_cons_zero, List.set_cons_succ]
  refine wpAnyH_take (i := 24) (by simp only [List.getElem?_toArray, List.getElem?_cons_succ, List.getElem?_cons_zero]; rfl) (by kernel_rfl) (by kernel_rfl) (by kernel_rfl) (fun _ _ _ h => h) (yieldsIf_eql (by rfl) .add 9 _ _ _ rfl (.string (txt A11)) (.string x.m) rfl rfl (.string (txt A12)) (guard_addn _ _ _ _) HA12.out) (by assumption) ?_
  try simp only [Act.put, List.setIfInBounds_toArray, List.set_cons_zero, List.set_cons_succ]
  refine wpAnyH_take (i := 25) (v := ?_) (by simp only [List.getElem?_toArray, List.getElem?_cons_succ, List.getElem?_cons_zero]; rfl) (by kernel_rfl) (by kernel_rfl) (by kernel_rfl) (fun _ _ _ h => h) (Or.inl ⟨by rfl, ?_⟩) (by assumption) ?_
  rotate_left
  · intro W hSW
    go_simp
    try with_reducible rfl
  try simp only [Act.put, List.setIfInBounds_toArray, List.set_cons_zero, List.set_cons_succ]
  refine wpAnyH_done (by kernel_rfl) ?_ _
  refine NoPanic.normal ?_
  clear hHeld
  go_wp2_with fail
  go_ret
  rw [HP.out]
  exact ⟨rfl, HB0.out.trans (HV3.out.mono HB0.out.size)⟩
end Go.Proofs.YtindmggmblmmcaaGreatDoor
