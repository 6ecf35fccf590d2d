/- The program's change of the document's, cut: the walk. -/
import Derived.Test.YtkpiinjhcckhfaaGreatDoorChOf
namespace Go.Proofs.YtkpiinjhcckhfaaGreatDoor
open Go.RowKit Plain Go.ChangeShapes Go.WideShapes Go.ChangeAt Go.Great
set_option linter.unusedVariables false
set_option linter.unusedSimpArgs false
theorem heap_cell_ne (w : World) (ob o : Nat) (v : Value) (b k : Nat) (h : b ≠ ob) : (w.setCell ⟨ob, o, none⟩ v).cell? ⟨b, k, none⟩ = w.cell? ⟨b, k, none⟩ := by
  unfold World.cell?
  rw [heap_setCell_ne w ⟨ob, o, none⟩ v b h]
/-- A change of the program's, made of one of the document's. -/
def ChTo (e : Ending) (w' : World) (c : CX) : Prop := ∃ xa xc fa fc, e = .returned (.agg (chV c xa xc fa fc)) ∧ ChAt w' c xa xc fa fc
set_option maxRecDepth 100000 in
set_option maxHeartbeats 64000000 in
theorem chto_any (c : CX) (xa : Option Addr) (xc : Nat) (fa : Option Addr) (fc : Nat) (w : World) (h : InCh w c xa fa) :
    Calls Tryz.prog 18 #[.agg (chV c xa xc fa fc)] w fun e w' => ChTo e w' (fewC c) ∧ Below w.heap.size w w' := by
  obtain ⟨n, hN⟩ : ∃ n, c.xs.length = n := ⟨_, rfl⟩
  obtain ⟨fn, hFN⟩ : ∃ n, c.fs.length = n := ⟨_, rfl⟩
  have HN := Lib.hid hN
  have HFN := Lib.hid hFN
  have hNB : n ≤ 9223372036854775807 := by rw [← hN]; exact h.xn
  have hFB : fn ≤ 9223372036854775807 := by rw [← hFN]; exact h.fn
  have HAX := Lib.hid h.exts
  have HAF := Lib.hid h.files
  have H20 : Hid ((fewC c).n.length = 20) := h.n20
  have HBY : Hid (∀ x ∈ (fewC c).n, 0 ≤ x ∧ x ≤ 255) := h.byt
  have hus := h.us
  have hds := h.ds
  have hm1 : min (c.u.size : Int) 200 = ((min c.u.size 200 : Nat) : Int) := by omega
  have hm2 : min (c.d.size : Int) 500 = ((min c.d.size 500 : Nat) : Int) := by omega
  have hs1 : ∀ W, (Instr.slice 9 (.string c.u) none (some (.int .i64 ((min c.u.size 200 : Nat) : Int))) none).run Tryz.prog W = .ok (.string (fewC c).u) W := fun W => slice_front c.u (min c.u.size 200) (by omega) _ rfl W
  have hs2 : ∀ W, (Instr.slice 9 (.string c.d) none (some (.int .i64 ((min c.d.size 500 : Nat) : Int))) none).run Tryz.prog W = .ok (.string (fewC c).d) W := fun W => slice_front c.d (min c.d.size 500) (by omega) _ rfl W
  unfold chV
  rw [hN, hFN]
  have hzr := zero_ch
  have HB0 : Hid (Below w.heap.size w ((w.alloc (.cells (chA c (.slice xa n xc) (.slice fa fn fc)) 49)).alloc (.cells (chA czero (.slice none 0 0) (.slice none 0 0)) 40))) := ((Below.refl _ _).alloc (Nat.le_refl _) _).alloc (by simp) _
  have HP0 : Hid (((w.alloc (.cells (chA c (.slice xa n xc) (.slice fa fn fc)) 49)).alloc (.cells (chA czero (.slice none 0 0) (.slice none 0 0)) 40)).heap[w.heap.size]? = some (.cells (chA c (.slice xa n xc) (.slice fa fn fc)) 49 (0, 0))) := (Below.heap_alloc _ _ _ (by simp)).trans (heap_alloc_new _ _)
  have HR0 : Hid (((w.alloc (.cells (chA c (.slice xa n xc) (.slice fa fn fc)) 49)).alloc (.cells (chA czero (.slice none 0 0) (.slice none 0 0)) 40)).heap[w.heap.size + 1]? = some (.cells (chA czero (.slice none 0 0) (.slice none 0 0)) 40 (0, 0))) := by
    have h1 := heap_alloc_new (w.alloc (.cells (chA c (.slice xa n xc) (.slice fa fn fc)) 49)) (.cells (chA czero (.slice none 0 0) (.slice none 0 0)) 40)
    rw [show (w.alloc (.cells (chA c (.slice xa n xc) (.slice fa fn fc)) 49)).heap.size = w.heap.size + 1 by simp] at h1
    exact h1
  have HS0 : Hid (((w.alloc (.cells (chA c (.slice xa n xc) (.slice fa fn fc)) 49)).alloc (.cells (chA czero (.slice none 0 0) (.slice none 0 0)) 40)).heap.size = w.heap.size + 1 + 1) := by show _ = _; simp
  have hbu := build_ch (fewC c) H20.out
  clear hN hFN h hus hds
  go_enter Tryz.func18, Tryz.ntmps18
  go_wp2_with fail
  obtain ⟨w0, hw0⟩ : ∃ W, (w.alloc (.cells (chA c (.slice xa n xc) (.slice fa fn fc)) 49)).alloc (.cells (chA czero (.slice none 0 0) (.slice none 0 0)) 40) = W := ⟨_, rfl⟩
  rw [hw0] at HB0 HP0 HR0 HS0 ⊢
  clear hw0
  obtain ⟨p0, hp0⟩ : ∃ b, w.heap.size = b := ⟨_, rfl⟩
  have HPE : Hid (w.heap.size = p0) := hp0
  rw [hp0] at HP0 HR0 HS0 ⊢
  obtain ⟨rb, hrb⟩ : ∃ b, p0 + 1 = b := ⟨_, rfl⟩
  rw [hrb] at HR0 HS0 ⊢
  have HNE0 : Hid (p0 ≠ rb ∧ p0 < w0.heap.size ∧ rb < w0.heap.size ∧ w.heap.size ≤ p0 ∧ w.heap.size ≤ rb ∧ w.heap.size ≤ w0.heap.size) := by have := HS0.out; show _ ∧ _; omega
  clear hp0 hrb
  have HRW0 : Hid (ChRow w0.drew p0 c (.slice xa n xc) (.slice fa fn fc)) := ChRow.of (w := w0.drew) (by exact HP0.out) H20.out
  have HRA : Hid (ChRow (w0.drew.alloc (.cells (chA czero (.slice none 0 0) (.slice none 0 0)) 40)) p0 c (.slice xa n xc) (.slice fa fn fc)) := ChRow.of ((Below.heap_alloc _ _ _ HNE0.out.2.1).trans HP0.out) H20.out
  have HGA : Hid ((w0.drew.alloc (.cells (chA czero (.slice none 0 0) (.slice none 0 0)) 40)).heap[w0.heap.size]? = some (.cells (chA czero (.slice none 0 0) (.slice none 0 0)) 40 (0, 0))) := heap_alloc_new _ _
  obtain ⟨w1, hw1⟩ : ∃ W, (w0.drew.alloc (.cells (chA czero (.slice none 0 0) (.slice none 0 0)) 40)).setRow w0.heap.size (chA (fewC c) (.slice none 0 0) (.slice none 0 0)) = W := ⟨_, rfl⟩
  have HP2 : Hid (w1.heap[p0]? = some (.cells (chA c (.slice xa n xc) (.slice fa fn fc)) 49 (0, 0))) := by
    show _ = _
    rw [← hw1]
    exact (setRow_other _ _ _ _ (by have := HNE0.out; omega)).trans ((Below.heap_alloc _ _ _ HNE0.out.2.1).trans HP0.out)
  have HR2 : Hid (w1.heap[rb]? = some (.cells (chA czero (.slice none 0 0) (.slice none 0 0)) 40 (0, 0))) := by
    show _ = _
    rw [← hw1]
    exact (setRow_other _ _ _ _ (by have := HNE0.out; omega)).trans ((Below.heap_alloc _ _ _ HNE0.out.2.2.1).trans HR0.out)
  have HG2 : Hid (w1.heap[w0.heap.size]? = some (.cells (chA (fewC c) (.slice none 0 0) (.slice none 0 0)) 40 (0, 0))) := by show _ = _; rw [← hw1]; exact setRow_heap _ _ _ _ _ _ HGA.out
  have HB2 : Hid (Below w.heap.size w w1) := by rw [← hw1]; exact below_setRow (HB0.out.drew.alloc (by exact HB0.out.size) _) HNE0.out.2.2.2.2.2 _
  have HRB0 : Hid (ChRow w1 p0 c (.slice xa n xc) (.slice fa fn fc)) := ChRow.of HP2.out H20.out
  have HRB : Hid (ChRow ((w0.drew.alloc (.cells (chA czero (.slice none 0 0) (.slice none 0 0)) 40)).setRow w0.heap.size (chA (fewC c) (.slice none 0 0) (.slice none 0 0))) p0 c (.slice xa n xc) (.slice fa fn fc)) := by rw [hw1]; exact HRB0.out
  refine wp_region_noPanic ?_
  refine wp_region_held_drew (S := fun W => ChRow W p0 c (.slice xa n xc) (.slice fa fn fc)) (by kernel_rfl) ?_ (fun hHeld => ?_)
  · exact HRW0.out
  refine tkV 0 (v := ?_) (hw := ?_) (h := ?_)
  rotate_left
  · intro W hSW
    go_simp
    try with_reducible rfl
  try simp only [Act.put, List.setIfInBounds_toArray, List.set_cons_zero, List.set_cons_succ]
  refine tkY 1 (hy := (yieldsIf_load_mid (by rfl) 22 _ rfl p0 0 rfl (U8 c.n) (.array 20 5) (fun W hSW => hSW.id) Tryz.underlying22 rfl (id20_infoL _ H20.out))) (h := ?_)
  try simp only [Act.put, List.setIfInBounds_toArray, List.set_cons_zero, List.set_cons_succ]
  refine tkV 2 (v := ?_) (hw := ?_) (h := ?_)
  rotate_left
  · intro W hSW
    go_simp
    try with_reducible rfl
  try simp only [Act.put, List.setIfInBounds_toArray, List.set_cons_zero, List.set_cons_succ]
  refine tkY 3 (hy := (yieldsIf_load_str (by rfl) 9 _ rfl p0 20 rfl c.u (fun W hSW => hSW.user) Tryz.underlying9)) (h := ?_)
  try simp only [Act.put, List.setIfInBounds_toArray, List.set_cons_zero, List.set_cons_succ]
  refine tkV 4 (v := ?_) (hw := ?_) (h := ?_)
  rotate_left
  · intro W hSW
    go_simp
    try with_reducible rfl
  try simp only [Act.put, List.setIfInBounds_toArray, List.set_cons_zero, List.set_cons_succ]
  refine tkY 5 (hy := (yieldsIf_load_str (by rfl) 9 _ rfl p0 20 rfl c.u (fun W hSW => hSW.user) Tryz.underlying9)) (h := ?_)
  try simp only [Act.put, List.setIfInBounds_toArray, List.set_cons_zero, List.set_cons_succ]
  refine tkV 6 (v := ?_) (hw := ?_) (h := ?_)
  rotate_left
  · intro W hSW
    go_simp
    try with_reducible rfl
  try simp only [Act.put, List.setIfInBounds_toArray, List.set_cons_zero, List.set_cons_succ]
  refine tkV 7 (v := ?_) (hw := ?_) (h := ?_)
  rotate_left
  · intro W hSW
    go_simp
    try with_reducible rfl
  try simp only [Act.put, List.setIfInBounds_toArray, List.set_cons_zero, List.set_cons_succ]
  refine tkV 8 (v := ?_) (hw := ?_) (h := ?_)
  rotate_left
  · intro W hSW
    go_simp
    try with_reducible rfl
  try simp only [Act.put, List.setIfInBounds_toArray, List.set_cons_zero, List.set_cons_succ]
  refine tkV 9 (v := ?_) (hw := ?_) (h := ?_)
  rotate_left
  · intro W hSW
    go_simp
    try with_reducible rfl
  try simp only [Act.put, List.setIfInBounds_toArray, List.set_cons_zero, List.set_cons_succ]
  refine tkY 10 (hy := (yieldsIf_load_int (by rfl) 3 _ rfl p0 21 rfl c.t (fun W hSW => hSW.time) Tryz.underlying3)) (h := ?_)
  try simp only [Act.put, List.setIfInBounds_toArray, List.set_cons_zero, List.set_cons_succ]
  refine tkV 11 (v := ?_) (hw := ?_) (h := ?_)
  rotate_left
  · intro W hSW
    go_simp
    try with_reducible rfl
  try simp only [Act.put, List.setIfInBounds_toArray, List.set_cons_zero, List.set_cons_succ]
  refine tkY 12 (hy := (yieldsIf_load_int (by rfl) 3 _ rfl p0 22 rfl c.z (fun W hSW => hSW.zone) Tryz.underlying3)) (h := ?_)
  try simp only [Act.put, List.setIfInBounds_toArray, List.set_cons_zero, List.set_cons_succ]
  refine tkV 13 (v := ?_) (hw := ?_) (h := ?_)
  rotate_left
  · intro W hSW
    go_simp
    try with_reducible rfl
  try simp only [Act.put, List.setIfInBounds_toArray, List.set_cons_zero, List.set_cons_succ]
  refine tkY 14 (hy := (yieldsIf_load_str (by rfl) 9 _ rfl p0 25 rfl c.d (fun W hSW => hSW.desc) Tryz.underlying9)) (h := ?_)
  try simp only [Act.put, List.setIfInBounds_toArray, List.set_cons_zero, List.set_cons_succ]
  refine tkV 15 (v := ?_) (hw := ?_) (h := ?_)
  rotate_left
  · intro W hSW
    go_simp
    try with_reducible rfl
  try simp only [Act.put, List.setIfInBounds_toArray, List.set_cons_zero, List.set_cons_succ]
  refine tkY 16 (hy := (yieldsIf_load_str (by rfl) 9 _ rfl p0 25 rfl c.d (fun W hSW => hSW.desc) Tryz.underlying9)) (h := ?_)
  try simp only [Act.put, List.setIfInBounds_toArray, List.set_cons_zero, List.set_cons_succ]
  refine tkV 17 (v := ?_) (hw := ?_) (h := ?_)
  rotate_left
  · intro W hSW
    go_simp
    try with_reducible rfl
  try simp only [Act.put, List.setIfInBounds_toArray, List.set_cons_zero, List.set_cons_succ]
  refine tkV 18 (v := ?_) (hw := ?_) (h := ?_)
  rotate_left
  · intro W hSW
    go_simp
    try with_reducible rfl
  try simp only [Act.put, List.setIfInBounds_toArray, List.set_cons_zero, List.set_cons_succ]
  refine tkV 19 (v := ?_) (hw := ?_) (h := ?_)
  rotate_left
  · intro W hSW
    go_simp
    try with_reducible rfl
  try simp only [Act.put, List.setIfInBounds_toArray, List.set_cons_zero, List.set_cons_succ]
  refine tkY 20 (hy := (yieldsIf_build (by rfl) _ _ rfl #[(0, .agg (V8 (fewC c).n)), (1, .string (fewC c).u), (2, .int .i64 (fewC c).t), (3, .int .i64 (fewC c).z), (6, .string (fewC c).d)] (map_five _ _ _ _ _ _ _ _ _ _ _ rfl rfl rfl rfl rfl) (.agg (chA (fewC c) (.slice none 0 0) (.slice none 0 0))) hbu)) (h := ?_)
  try simp only [Act.put, List.setIfInBounds_toArray, List.set_cons_zero, List.set_cons_succ]
  refine wpAnyH_ready (rs := [21]) (by kernel_rfl) (by simp) ?_
  refine AllReadyH.cons (by simp only [List.getElem?_toArray, List.getElem?_cons_succ, List.getElem?_cons_zero]; rfl) (fun K hK => ?_) AllReadyH.nil
  go_simp
  try rw [show (w0.alloc (.cells (chA czero (.slice none 0 0) (.slice none 0 0)) 40)).drew = w0.drew.alloc (.cells (chA czero (.slice none 0 0) (.slice none 0 0)) 40) from rfl]
  refine hK.out _ _ (HRA.out) (fun hHeld2 => ?_)
  clear hK K hHeld
  have hHeld := hHeld2
  clear hHeld2
  try simp only [Act.put, List.setIfInBounds_toArray, List.set_cons_zero, List.set_cons_succ]
  refine wpAnyH_ready (rs := [22]) (by kernel_rfl) (by simp) ?_
  refine AllReadyH.cons (by simp only [List.getElem?_toArray, List.getElem?_cons_succ, List.getElem?_cons_zero]; rfl) (fun K hK => ?_) AllReadyH.nil
  refine step_store_row (by rfl) 40 _ _ rfl w0.heap.size (chA (fewC c) (.slice none 0 0) (.slice none 0 0)) rfl rfl 40 (chA czero (.slice none 0 0) (.slice none 0 0)) HGA.out (info_chA _ _ _ H20.out) (by rw [chA_size _ _ _ czero_20, chA_size (fewC c) _ _ H20.out]) (chA_one _ _ _ rfl rfl) ?_
  refine hK.out _ _ (HRB.out) (fun hHeld2 => ?_)
  clear hK K hHeld
  have hHeld := hHeld2
  clear hHeld2
  try simp only [Act.put, List.setIfInBounds_toArray, List.set_cons_zero, List.set_cons_succ]
  refine wpAnyH_done (by kernel_rfl) ?_ _
  refine NoPanic.normal ?_
  rw [hw1]
  clear hw1 HRB0 HRB HGA HRA HRW0 hHeld hbu hs1 hs2 hm1 hm2 hzr
  obtain ⟨ob, hob⟩ : ∃ b, w0.heap.size = b := ⟨_, rfl⟩
  rw [hob] at HG2 ⊢
  have HN1 : Hid (p0 ≠ ob ∧ rb ≠ ob ∧ p0 ≠ rb ∧ w.heap.size ≤ p0 ∧ w.heap.size ≤ rb ∧ w.heap.size ≤ ob) := by have := HNE0.out; show _ ∧ _; omega
  clear hob HP0 HR0 HB0 HS0 HNE0
  have HPL : Hid (p0 < w1.heap.size) := (Array.getElem?_eq_some_iff.1 HP2.out).1
  have HOB : Hid (ob < w1.heap.size) := (Array.getElem?_eq_some_iff.1 HG2.out).1
  have HRL : Hid (rb < w1.heap.size) := (Array.getElem?_eq_some_iff.1 HR2.out).1
  have HPO : Hid (p0 ≠ ob) := HN1.out.1
  have HRW : Hid (ChRow w1 p0 c (.slice xa n xc) (.slice fa fn fc)) := ChRow.of HP2.out H20.out
  have HP23B : Hid (w1.cell? ⟨p0, 23, none⟩ = some (.slice xa n xc)) := HRW.out.exts
  go_wp2_with fail
  go_loopw [4] (fun i wr => ∃ (k : Nat) (oa : Option Addr) (oc : Nat), k ≤ 20 ∧ k ≤ n ∧ i = .int .i64 (k : Int) ∧ OwnG 2 extE 79 wr w1.heap.size (.slice oa k oc) ((c.xs.take k).map fewX) ∧ wr.heap[ob]? = some (.cells (chA (fewC c) (.slice oa k oc) (.slice none 0 0)) 40 (0, 0)) ∧ FrR ob w1 wr) (fun i _ => n - (intOf i).toNat)
  case atStart => exact ⟨0, none, 0, Nat.zero_le _, Nat.zero_le _, rfl, by rw [List.take_zero]; exact OwnG.nil _ _ _, HG2.out, FrR.refl _ _⟩
  case round =>
    rename World => wr
    obtain ⟨k, oa, oc, hk, hkn, rfl, ho, hr, hf⟩ := hrel
    have HO := Lib.hid ho
    have HR := Lib.hid hr
    have HF := Lib.hid hf
    have WK := Lib.hid (next_int k (by omega))
    have HP23 := Lib.hid ((HF.out.cell HPL.out HPO.out 23).trans HP23B.out)
    have HTL : Hid (((c.xs.take k).map fewX).length = k) := by show _ = _; rw [List.length_map, List.length_take, HN.out]; omega
    have hp23 := HP23.out
    clear ho hr hf HG2
    by_cases h1 : k = n
    · subst h1
      have HEX : Hid ((c.xs.take k).map fewX = (fewC c).xs) := by show _ = List.map _ _; rw [List.take_of_length_le (by rw [HN.out]; omega), List.take_of_length_le (by rw [HN.out]; omega)]
      have HLK : Hid ((fewC c).xs.length = k) := by rw [← HEX.out]; exact HTL.out
      rw [HEX.out] at HO
      clear hk hkn HEX
      obtain ⟨w2, hw2⟩ : ∃ W, wr = W := ⟨_, rfl⟩
      rw [hw2] at HO HR HF hp23 ⊢
      clear hw2 HP23 HTL
      have HRL2 : Hid (rb < w2.heap.size) := Nat.lt_of_lt_of_le HRL.out HF.out.size
      have HR3 : Hid (w2.heap[rb]? = some (.cells (chA czero (.slice none 0 0) (.slice none 0 0)) 40 (0, 0))) := (HF.out.block rb HRL.out HN1.out.2.1).trans HR2.out
      have HOW : Hid (∀ W, FrR ob w2 W → OwnG 2 extE 79 W w1.heap.size (.slice oa k oc) (fewC c).xs) := fun W hW => HO.out.move fun g hg hgl => hW.block g hgl (by have := HOB.out; omega)
      have HP24B : Hid (w2.cell? ⟨p0, 24, none⟩ = some (.slice fa fn fc)) := (HF.out.cell HPL.out HPO.out 24).trans HRW.out.files
      have HPL2 : Hid (p0 < w2.heap.size) := Nat.lt_of_lt_of_le HPL.out HF.out.size
      have HBW2 : Hid (Below w.heap.size w w2) := HB2.out.trans (HF.out.below HN1.out.2.2.2.2.2 HB2.out.size)
      go_wp2_with fail
      go_loopw [6] (fun i wt => ∃ (j : Nat) (ba : Option Addr) (bc : Nat), j ≤ 20 ∧ j ≤ fn ∧ i = .int .i64 (j : Int) ∧ OwnG 1 strE 9 wt w2.heap.size (.slice ba j bc) ((c.fs.take j).map (cutB 300)) ∧ (j = 0 → ba = none ∧ bc = 0) ∧ wt.heap[ob]? = some (.cells (chA (fewC c) (.slice oa k oc) (.slice ba j bc)) 40 (0, 0)) ∧ FrR ob w2 wt) (fun i _ => fn - (intOf i).toNat)
      case atStart => exact ⟨0, none, 0, Nat.zero_le _, Nat.zero_le _, rfl, by rw [List.take_zero]; exact OwnG.nil _ _ _, fun _ => ⟨rfl, rfl⟩, HR.out, FrR.refl _ _⟩
      case round =>
        rename World => wt
        obtain ⟨j, ba, bc, hj, hjn, rfl, hq, hnil, ht, hg⟩ := hrel
        have HQ := Lib.hid hq
        have HNIL := Lib.hid hnil
        have HT2 := Lib.hid ht
        have HG := Lib.hid hg
        have WJ := Lib.hid (next_int j (by omega))
        have HPC : Hid (∀ W, FrR ob w2 W → W.cell? ⟨p0, 24, none⟩ = some (.slice fa fn fc)) := fun W hW => (hW.cell HPL2.out HPO.out 24).trans HP24B.out
        have HPF := Lib.hid (HPC.out wt HG.out)
        have hpf := HPF.out
        clear hq hnil ht hg
        by_cases h1 : j = fn
        · subst h1
          have HEY : Hid ((c.fs.take j).map (cutB 300) = (fewC c).fs) := by show _ = List.map _ _; rw [List.take_of_length_le (by rw [HFN.out]; omega), List.take_of_length_le (by rw [HFN.out]; omega)]
          have HLJ : Hid ((fewC c).fs.length = j) := by rw [← HEY.out]; show _ = _; rw [List.length_map, List.length_take, HFN.out]; omega
          rw [HEY.out] at HQ
          clear hj hjn
          have HCL : Hid ((chL (fewC c) (.slice oa k oc) (.slice ba j bc)).toArray = chV (fewC c) oa oc ba bc) := by show _ = _; unfold chV; rw [HLK.out, HLJ.out]; rfl
          have HRF : Hid (wt.heap[rb]? = some (.cells (chA czero (.slice none 0 0) (.slice none 0 0)) 40 (0, 0))) := (HG.out.block rb HRL2.out HN1.out.2.1).trans HR3.out
          have HBF : Hid (Below w.heap.size w wt) := HB2.out.trans ((HF.out.below HN1.out.2.2.2.2.2 HB2.out.size).trans (HG.out.below HN1.out.2.2.2.2.2 (Nat.le_trans HB2.out.size HF.out.size)))
          have HOF : Hid (OwnG 2 extE 79 wt w1.heap.size (.slice oa k oc) (fewC c).xs) := HOW.out wt HG.out
          go_wp2_with (first
            | (refine wpList_load_mid rfl 40 _ rfl ob 0 rfl (chL (fewC c) (.slice oa k oc) (.slice ba j bc)) _ (ChRow.of HT2.out H20.out).cells Tryz.underlying40 rfl (info_ch (fewC c) _ _ H20.out) ?_
               rw [HCL.out])
            | refine wpList_store_row rfl 40 _ _ rfl rb (chV (fewC c) oa oc ba bc) rfl rfl 40 (chA czero (.slice none 0 0) (.slice none 0 0)) HRF.out (info_chA (fewC c) _ _ H20.out) (by unfold chV; rw [chA_size _ _ _ czero_20, chA_size (fewC c) _ _ H20.out]) (chA_one _ _ _ rfl rfl) ?_)
          refine bodyPost_ret (results_cell_row Tryz.results18 _ _ rb 40 (chV (fewC c) oa oc ba bc) (0, 0) _ rfl (setRow_heap _ _ _ _ _ _ HRF.out) Tryz.underlying40 rfl (info_chA (fewC c) _ _ H20.out)) rfl ?_
          refine ⟨⟨oa, oc, ba, bc, rfl, H20.out, HBY.out, rowat_setRow (HOF.out.fs extE_len).1 (fun b' off' he _ => by have := HOF.out.base he; have := HRL.out; omega), rowat_setRow (HQ.out.fs strE_len).1 (fun b' off' he _ => by have := HQ.out.base he; have := HRL2.out; omega), fun e => HNIL.out (HLJ.out.symm.trans e)⟩, below_setRow HBF.out HN1.out.2.2.2.2.1 _⟩
        · have hjl : j < fn := by omega
          have hji : (j : Int) < (fn : Int) := by omega
          by_cases h2 : j = 20
          · subst h2
            have HEY : Hid ((c.fs.take 20).map (cutB 300) = (fewC c).fs) := by show _ = List.map _ _; rfl
            have HLJ : Hid ((fewC c).fs.length = 20) := by rw [← HEY.out]; show _ = _; rw [List.length_map, List.length_take, HFN.out]; omega
            rw [HEY.out] at HQ
            clear hj hjn
            have HCL : Hid ((chL (fewC c) (.slice oa k oc) (.slice ba 20 bc)).toArray = chV (fewC c) oa oc ba bc) := by show _ = _; unfold chV; rw [HLK.out, HLJ.out]; rfl
            have HRF : Hid (wt.heap[rb]? = some (.cells (chA czero (.slice none 0 0) (.slice none 0 0)) 40 (0, 0))) := (HG.out.block rb HRL2.out HN1.out.2.1).trans HR3.out
            have HBF : Hid (Below w.heap.size w wt) := HB2.out.trans ((HF.out.below HN1.out.2.2.2.2.2 HB2.out.size).trans (HG.out.below HN1.out.2.2.2.2.2 (Nat.le_trans HB2.out.size HF.out.size)))
            have HOF : Hid (OwnG 2 extE 79 wt w1.heap.size (.slice oa k oc) (fewC c).xs) := HOW.out wt HG.out
            go_wp2_with (first
              | (refine wpList_load_mid rfl 40 _ rfl ob 0 rfl (chL (fewC c) (.slice oa k oc) (.slice ba 20 bc)) _ (ChRow.of HT2.out H20.out).cells Tryz.underlying40 rfl (info_ch (fewC c) _ _ H20.out) ?_
                 rw [HCL.out])
              | refine wpList_store_row rfl 40 _ _ rfl rb (chV (fewC c) oa oc ba bc) rfl rfl 40 (chA czero (.slice none 0 0) (.slice none 0 0)) HRF.out (info_chA (fewC c) _ _ H20.out) (by unfold chV; rw [chA_size _ _ _ czero_20, chA_size (fewC c) _ _ H20.out]) (chA_one _ _ _ rfl rfl) ?_)
            refine bodyPost_ret (results_cell_row Tryz.results18 _ _ rb 40 (chV (fewC c) oa oc ba bc) (0, 0) _ rfl (setRow_heap _ _ _ _ _ _ HRF.out) Tryz.underlying40 rfl (info_chA (fewC c) _ _ H20.out)) rfl ?_
            refine ⟨⟨oa, oc, ba, bc, rfl, H20.out, HBY.out, rowat_setRow (HOF.out.fs extE_len).1 (fun b' off' he _ => by have := HOF.out.base he; have := HRL.out; omega), rowat_setRow (HQ.out.fs strE_len).1 (fun b' off' he _ => by have := HQ.out.base he; have := HRL2.out; omega), fun e => HNIL.out (HLJ.out.symm.trans e)⟩, below_setRow HBF.out HN1.out.2.2.2.2.1 _⟩
          · have HJN : Hid (j + 1 ≤ fn) := by show _ ≤ _; omega
            have HJ20 : Hid (j + 1 ≤ 20) := by show _ ≤ _; omega
            have hj3i : (j : Int) < 20 := by omega
            rcases HAF.out with h0 | ⟨b, off, rfl, hbl, hc⟩
            · rw [HFN.out] at h0; omega
            obtain ⟨y, hy⟩ : ∃ y, c.fs[j]? = some y := ⟨_, List.getElem?_eq_getElem (by rw [HFN.out]; exact hjl)⟩
            have HYR : Hid (∀ W, FrR ob w2 W → W.rangeAt b (off + j * 1) (strE y)) := fun W hW => hW.range (by have := HBW2.out.size; omega) (by have := HN1.out; omega) (range_below (hc j y hy) HBW2.out hbl)
            have HRY := Lib.hid (HYR.out _ HG.out)
            have HT : Hid ((c.fs.take (j + 1)).map (cutB 300) = (c.fs.take j).map (cutB 300) ++ [cutB 300 y]) := by show _ = _; rw [take_snoc hy, List.map_append]; rfl
            have HTL : Hid (((c.fs.take j).map (cutB 300)).length = j) := by show _ = _; rw [List.length_map, List.length_take, HFN.out]; omega
            have HJ1 : Hid (off + j = off + j * 1) := by show _ = _; omega
            have hm3 : min (y.size : Int) 300 = ((min y.size 300 : Nat) : Int) := by omega
            have hs3 : ∀ W, (Instr.slice 9 (.string y) none (some (.int .i64 ((min y.size 300 : Nat) : Int))) none).run Tryz.prog W = .ok (.string (cutB 300 y)) W := fun W => slice_front y (min y.size 300) (by omega) _ rfl W
            clear hy hbl hc hj hjn
            go_wp2_with fail
            have HF6 : Hid (FrR ob w2 (wt.drew.alloc (.cells (strE (cutB 300 y)).toArray 9))) := HG.out.drew.trans (FrR.of ((Below.refl _ _).alloc (Nat.le_refl _) _))
            have HO6 : Hid (OwnG 1 strE 9 (wt.drew.alloc (.cells (strE (cutB 300 y)).toArray 9)) w2.heap.size (.slice ba j bc) ((c.fs.take j).map (cutB 300))) := HQ.out.below ((Below.refl _ _).drew.alloc (Nat.le_refl _) _)
            have HR6 : Hid ((wt.drew.alloc (.cells (strE (cutB 300 y)).toArray 9)).heap[ob]? = some (.cells (chA (fewC c) (.slice oa k oc) (.slice ba j bc)) 40 (0, 0))) := (Below.heap_alloc _ _ _ (Array.getElem?_eq_some_iff.1 HT2.out).1).trans HT2.out
            have HQ1 := Lib.hid (HPC.out _ HF6.out)
            have HQ2 := Lib.hid (HYR.out _ HF6.out)
            refine wp_region_noPanic ?_
            refine wp_region_held_drew (S := fun W => W.cell? ⟨p0, 24, none⟩ = some (.slice (some ⟨b, off, none⟩) fn fc) ∧ W.rangeAt b (off + j * 1) (strE y)) (by kernel_rfl) ?_ (fun hHeld => ?_)
            · exact ⟨HPF.out, HRY.out⟩
            refine tkV 0 (v := ?_) (hw := ?_) (h := ?_)
            rotate_left
            · intro W hSW
              go_simp
              try with_reducible rfl
            try simp only [Act.put, List.setIfInBounds_toArray, List.set_cons_zero, List.set_cons_succ]
            refine tkV 2 (v := ?_) (hw := ?_) (h := ?_)
            rotate_left
            · intro W hSW
              go_simp
              try with_reducible rfl
            try simp only [Act.put, List.setIfInBounds_toArray, List.set_cons_zero, List.set_cons_succ]
            refine tkY 3 (hy := (yieldsIf_load_sl (by rfl) 38 _ rfl p0 24 rfl (.slice (some ⟨b, off, none⟩) fn fc) (fun W hSW => hSW.1) Tryz.underlying38)) (h := ?_)
            try simp only [Act.put, List.setIfInBounds_toArray, List.set_cons_zero, List.set_cons_succ]
            refine tkV 4 (v := ?_) (hw := ?_) (h := ?_)
            rotate_left
            · intro W hSW
              go_simp
              try with_reducible rfl
            try simp only [Act.put, List.setIfInBounds_toArray, List.set_cons_zero, List.set_cons_succ]
            refine tkV 5 (v := ?_) (hw := ?_) (h := ?_)
            rotate_left
            · intro W hSW
              go_simp
              try with_reducible rfl
            try simp only [Act.put, List.setIfInBounds_toArray, List.set_cons_zero, List.set_cons_succ]
            try rw [HJ1.out]
            refine tkY 6 (hy := (yieldsIf_load_str (by rfl) 9 _ rfl b (off + j * 1) rfl y (fun W hSW => range_str hSW.2) Tryz.underlying9)) (h := ?_)
            try simp only [Act.put, List.setIfInBounds_toArray, List.set_cons_zero, List.set_cons_succ]
            refine tkV 7 (v := ?_) (hw := ?_) (h := ?_)
            rotate_left
            · intro W hSW
              go_simp
              try with_reducible rfl
            try simp only [Act.put, List.setIfInBounds_toArray, List.set_cons_zero, List.set_cons_succ]
            refine tkY 8 (hy := (yieldsIf_load_sl (by rfl) 38 _ rfl p0 24 rfl (.slice (some ⟨b, off, none⟩) fn fc) (fun W hSW => hSW.1) Tryz.underlying38)) (h := ?_)
            try simp only [Act.put, List.setIfInBounds_toArray, List.set_cons_zero, List.set_cons_succ]
            refine tkV 9 (v := ?_) (hw := ?_) (h := ?_)
            rotate_left
            · intro W hSW
              go_simp
              try with_reducible rfl
            try simp only [Act.put, List.setIfInBounds_toArray, List.set_cons_zero, List.set_cons_succ]
            refine tkV 10 (v := ?_) (hw := ?_) (h := ?_)
            rotate_left
            · intro W hSW
              go_simp
              try with_reducible rfl
            try simp only [Act.put, List.setIfInBounds_toArray, List.set_cons_zero, List.set_cons_succ]
            try rw [HJ1.out]
            refine tkY 11 (hy := (yieldsIf_load_str (by rfl) 9 _ rfl b (off + j * 1) rfl y (fun W hSW => range_str hSW.2) Tryz.underlying9)) (h := ?_)
            try simp only [Act.put, List.setIfInBounds_toArray, List.set_cons_zero, List.set_cons_succ]
            refine tkV 12 (v := ?_) (hw := ?_) (h := ?_)
            rotate_left
            · intro W hSW
              go_simp
              try with_reducible rfl
            try simp only [Act.put, List.setIfInBounds_toArray, List.set_cons_zero, List.set_cons_succ]
            refine tkV 13 (v := ?_) (hw := ?_) (h := ?_)
            rotate_left
            · intro W hSW
              go_simp
              try with_reducible rfl
            try simp only [Act.put, List.setIfInBounds_toArray, List.set_cons_zero, List.set_cons_succ]
            refine tkV 14 (v := ?_) (hw := ?_) (h := ?_)
            rotate_left
            · intro W hSW
              go_simp
              try with_reducible rfl
            try simp only [Act.put, List.setIfInBounds_toArray, List.set_cons_zero, List.set_cons_succ]
            refine wpAnyH_ready (rs := [1, 15]) (by kernel_rfl) (by simp) ?_
            refine AllReadyH.cons (by simp only [List.getElem?_toArray, List.getElem?_cons_succ, List.getElem?_cons_zero]; rfl) (fun K hK => ?_) (AllReadyH.cons (by simp only [List.getElem?_toArray, List.getElem?_cons_succ, List.getElem?_cons_zero]; rfl) (fun K hK => ?_) AllReadyH.nil)
            · have hcod := (ChRow.of (w := wt.drew) (by exact HT2.out) H20.out).files
              go_simp
              refine hK.out _ _ (⟨HPF.out, HRY.out⟩) (fun hHeld2 => ?_)
              clear hK K hHeld
              have hHeld := hHeld2
              clear hHeld2
              try simp only [Act.put, List.setIfInBounds_toArray, List.set_cons_zero, List.set_cons_succ]
              clear hcod
              refine wpAnyH_ready (rs := [15]) (by kernel_rfl) (by simp) ?_
              refine AllReadyH.cons (by simp only [List.getElem?_toArray, List.getElem?_cons_succ, List.getElem?_cons_zero]; rfl) (fun K hK => ?_) AllReadyH.nil
              refine step_slice (by rfl) _ _ _ rfl #[(0, .string (cutB 300 y))] (map_one _ _ _ rfl) _ _ (slice_G1 elem_str (by decide) (by decide) (by decide) strE_len (cutB 300 y) _ rfl _) ?_
              refine hK.out _ _ (⟨HQ1.out, HQ2.out⟩) (fun hHeld2 => ?_)
              clear hK K hHeld
              have hHeld := hHeld2
              clear hHeld2
              try simp only [Act.put, List.setIfInBounds_toArray, List.set_cons_zero, List.set_cons_succ]
              refine wpAnyH_ready (rs := [16]) (by kernel_rfl) (by simp) ?_
              refine AllReadyH.cons (by simp only [List.getElem?_toArray, List.getElem?_cons_succ, List.getElem?_cons_zero]; rfl) (fun K hK => ?_) AllReadyH.nil
              refine step_append_G elem_str strE_len (by decide) (by decide) strE_one (by rfl) _ _ rfl w2.heap.size (.slice ba j bc) ((c.fs.take j).map (cutB 300)) j HTL.out rfl HO6.out wt.heap.size 0 1 1 [cutB 300 y] rfl (by decide) rfl (one_G wt.drew _ (cutB 300 y)) (j + 1) ((c.fs.take (j + 1)).map (cutB 300)) rfl HT.out.symm (by omega) HF6.out.size ?_
              rintro g2 gc2 w7 ho7 hg7 hgg hgl
              have HO7 := Lib.hid ho7
              have HF7 : Hid (FrR ob w2 w7) := HF6.out.grown hg7 (fun g hg => (HO6.out.lt hg).1)
              have HR7 : Hid (w7.heap[ob]? = some (.cells (chA (fewC c) (.slice oa k oc) (.slice ba j bc)) 40 (0, 0))) := (hg7.block ob (Array.getElem?_eq_some_iff.1 HR6.out).1 (fun e => by have h1 := (HO6.out.lt e.symm).1; have h2 := HOB.out; have h3 := HF.out.size; omega)).trans HR6.out
              have HP7 : Hid (w7.cell? ⟨p0, 24, none⟩ = some (.slice (some ⟨b, off, none⟩) fn fc)) := HPC.out w7 HF7.out
              have HX7 : Hid (w7.rangeAt b (off + j * 1) (strE y)) := HYR.out w7 HF7.out
              clear ho7 hg7 hgg hgl
              refine hK.out _ _ (⟨HP7.out, HX7.out⟩) (fun hHeld2 => ?_)
              clear hK K hHeld
              have hHeld := hHeld2
              clear hHeld2
              try simp only [Act.put, List.setIfInBounds_toArray, List.set_cons_zero, List.set_cons_succ]
              refine tkV 17 (v := ?_) (hw := ?_) (h := ?_)
              rotate_left
              · intro W hSW
                go_simp
                try with_reducible rfl
              try simp only [Act.put, List.setIfInBounds_toArray, List.set_cons_zero, List.set_cons_succ]
              have hco7 := (ChRow.of HR7.out H20.out).files
              have hfo7 := frozen_of_row w7 ob 24 _ _ HR7.out
              refine wpAnyH_ready (rs := [18]) (by kernel_rfl) (by simp) ?_
              refine AllReadyH.cons (by simp only [List.getElem?_toArray, List.getElem?_cons_succ, List.getElem?_cons_zero]; rfl) (fun K hK => ?_) AllReadyH.nil
              go_simp
              have HR8 : Hid ((w7.setCell ⟨ob, 24, none⟩ (.slice (some ⟨g2, 0, none⟩) (j + 1) gc2)).heap[ob]? = some (.cells (chA (fewC c) (.slice oa k oc) (.slice (some ⟨g2, 0, none⟩) (j + 1) gc2)) 40 (0, 0))) := by
                show _ = _
                rw [heap_setCell_same w7 ob 24 _ _ _ HR7.out, chA_set (fewC c) _ _ H20.out 4 _ _ rfl]
                rfl
              have HF8 : Hid (FrR ob w2 (w7.setCell ⟨ob, 24, none⟩ (.slice (some ⟨g2, 0, none⟩) (j + 1) gc2))) := HF7.out.trans (FrR.setCell ob 24 _ _)
              have HO8 : Hid (OwnG 1 strE 9 (w7.setCell ⟨ob, 24, none⟩ (.slice (some ⟨g2, 0, none⟩) (j + 1) gc2)) w2.heap.size (.slice (some ⟨g2, 0, none⟩) (j + 1) gc2) ((c.fs.take (j + 1)).map (cutB 300))) := HO7.out.move fun g hg _ => heap_setCell_ne w7 ⟨ob, 24, none⟩ _ g (by have := HOB.out; have h3 := HF.out.size; show g ≠ ob; omega)
              refine hK.out _ _ (⟨HPC.out _ HF8.out, HYR.out _ HF8.out⟩) (fun hHeld2 => ?_)
              clear hK K hHeld
              have hHeld := hHeld2
              clear hHeld2
              try simp only [Act.put, List.setIfInBounds_toArray, List.set_cons_zero, List.set_cons_succ]
              refine wpAnyH_done (by kernel_rfl) ?_ _
              refine NoPanic.normal ?_
              clear hHeld hco7 hfo7
              go_wp2_with fail
              try rw [WJ.out ((j : Int) + 1) rfl]
              exact ⟨⟨j + 1, some ⟨g2, 0, none⟩, gc2, HJ20.out, HJN.out, rfl, HO8.out, fun e => absurd e (Nat.succ_ne_zero j), HR8.out, HF8.out⟩, by simp [intOf]; have h1 := HJN.out; omega⟩
            · refine step_slice (by rfl) _ _ _ rfl #[(0, .string (cutB 300 y))] (map_one _ _ _ rfl) _ _ (slice_G1 elem_str (by decide) (by decide) (by decide) strE_len (cutB 300 y) _ rfl _) ?_
              refine hK.out _ _ (⟨HQ1.out, HQ2.out⟩) (fun hHeld2 => ?_)
              clear hK K hHeld
              have hHeld := hHeld2
              clear hHeld2
              try simp only [Act.put, List.setIfInBounds_toArray, List.set_cons_zero, List.set_cons_succ]
              refine wpAnyH_ready (rs := [1]) (by kernel_rfl) (by simp) ?_
              refine AllReadyH.cons (by simp only [List.getElem?_toArray, List.getElem?_cons_succ, List.getElem?_cons_zero]; rfl) (fun K hK => ?_) AllReadyH.nil
              have hcod := (ChRow.of (w := wt.alloc (.cells (strE (cutB 300 y)).toArray 9)) (by exact HR6.out) H20.out).files
              go_simp
              try rw [show (wt.alloc (.cells (strE (cutB 300 y)).toArray 9)).drew = wt.drew.alloc (.cells (strE (cutB 300 y)).toArray 9) from rfl]
              refine hK.out _ _ (⟨HQ1.out, HQ2.out⟩) (fun hHeld2 => ?_)
              clear hK K hHeld
              have hHeld := hHeld2
              clear hHeld2
              try simp only [Act.put, List.setIfInBounds_toArray, List.set_cons_zero, List.set_cons_succ]
              clear hcod
              refine wpAnyH_ready (rs := [16]) (by kernel_rfl) (by simp) ?_
              refine AllReadyH.cons (by simp only [List.getElem?_toArray, List.getElem?_cons_succ, List.getElem?_cons_zero]; rfl) (fun K hK => ?_) AllReadyH.nil
              refine step_append_G elem_str strE_len (by decide) (by decide) strE_one (by rfl) _ _ rfl w2.heap.size (.slice ba j bc) ((c.fs.take j).map (cutB 300)) j HTL.out rfl HO6.out wt.heap.size 0 1 1 [cutB 300 y] rfl (by decide) rfl (one_G wt.drew _ (cutB 300 y)) (j + 1) ((c.fs.take (j + 1)).map (cutB 300)) rfl HT.out.symm (by omega) HF6.out.size ?_
              rintro g2 gc2 w7 ho7 hg7 hgg hgl
              have HO7 := Lib.hid ho7
              have HF7 : Hid (FrR ob w2 w7) := HF6.out.grown hg7 (fun g hg => (HO6.out.lt hg).1)
              have HR7 : Hid (w7.heap[ob]? = some (.cells (chA (fewC c) (.slice oa k oc) (.slice ba j bc)) 40 (0, 0))) := (hg7.block ob (Array.getElem?_eq_some_iff.1 HR6.out).1 (fun e => by have h1 := (HO6.out.lt e.symm).1; have h2 := HOB.out; have h3 := HF.out.size; omega)).trans HR6.out
              have HP7 : Hid (w7.cell? ⟨p0, 24, none⟩ = some (.slice (some ⟨b, off, none⟩) fn fc)) := HPC.out w7 HF7.out
              have HX7 : Hid (w7.rangeAt b (off + j * 1) (strE y)) := HYR.out w7 HF7.out
              clear ho7 hg7 hgg hgl
              refine hK.out _ _ (⟨HP7.out, HX7.out⟩) (fun hHeld2 => ?_)
              clear hK K hHeld
              have hHeld := hHeld2
              clear hHeld2
              try simp only [Act.put, List.setIfInBounds_toArray, List.set_cons_zero, List.set_cons_succ]
              refine tkV 17 (v := ?_) (hw := ?_) (h := ?_)
              rotate_left
              · intro W hSW
                go_simp
                try with_reducible rfl
              try simp only [Act.put, List.setIfInBounds_toArray, List.set_cons_zero, List.set_cons_succ]
              have hco7 := (ChRow.of HR7.out H20.out).files
              have hfo7 := frozen_of_row w7 ob 24 _ _ HR7.out
              refine wpAnyH_ready (rs := [18]) (by kernel_rfl) (by simp) ?_
              refine AllReadyH.cons (by simp only [List.getElem?_toArray, List.getElem?_cons_succ, List.getElem?_cons_zero]; rfl) (fun K hK => ?_) AllReadyH.nil
              go_simp
              have HR8 : Hid ((w7.setCell ⟨ob, 24, none⟩ (.slice (some ⟨g2, 0, none⟩) (j + 1) gc2)).heap[ob]? = some (.cells (chA (fewC c) (.slice oa k oc) (.slice (some ⟨g2, 0, none⟩) (j + 1) gc2)) 40 (0, 0))) := by
                show _ = _
                rw [heap_setCell_same w7 ob 24 _ _ _ HR7.out, chA_set (fewC c) _ _ H20.out 4 _ _ rfl]
                rfl
              have HF8 : Hid (FrR ob w2 (w7.setCell ⟨ob, 24, none⟩ (.slice (some ⟨g2, 0, none⟩) (j + 1) gc2))) := HF7.out.trans (FrR.setCell ob 24 _ _)
              have HO8 : Hid (OwnG 1 strE 9 (w7.setCell ⟨ob, 24, none⟩ (.slice (some ⟨g2, 0, none⟩) (j + 1) gc2)) w2.heap.size (.slice (some ⟨g2, 0, none⟩) (j + 1) gc2) ((c.fs.take (j + 1)).map (cutB 300))) := HO7.out.move fun g hg _ => heap_setCell_ne w7 ⟨ob, 24, none⟩ _ g (by have := HOB.out; have h3 := HF.out.size; show g ≠ ob; omega)
              refine hK.out _ _ (⟨HPC.out _ HF8.out, HYR.out _ HF8.out⟩) (fun hHeld2 => ?_)
              clear hK K hHeld
              have hHeld := hHeld2
              clear hHeld2
              try simp only [Act.put, List.setIfInBounds_toArray, List.set_cons_zero, List.set_cons_succ]
              refine wpAnyH_done (by kernel_rfl) ?_ _
              refine NoPanic.normal ?_
              clear hHeld hco7 hfo7
              go_wp2_with fail
              try rw [WJ.out ((j : Int) + 1) rfl]
              exact ⟨⟨j + 1, some ⟨g2, 0, none⟩, gc2, HJ20.out, HJN.out, rfl, HO8.out, fun e => absurd e (Nat.succ_ne_zero j), HR8.out, HF8.out⟩, by simp [intOf]; have h1 := HJN.out; omega⟩
    · have hkl : k < n := by omega
      have hki : (k : Int) < (n : Int) := by omega
      by_cases h2 : k = 20
      · subst h2
        have HEX : Hid ((c.xs.take 20).map fewX = (fewC c).xs) := by show _ = List.map _ _; rfl
        have HLK : Hid ((fewC c).xs.length = 20) := by rw [← HEX.out]; exact HTL.out
        rw [HEX.out] at HO
        clear hk hkn HEX
        obtain ⟨w2, hw2⟩ : ∃ W, wr = W := ⟨_, rfl⟩
        rw [hw2] at HO HR HF hp23 ⊢
        clear hw2 HP23 HTL
        have HRL2 : Hid (rb < w2.heap.size) := Nat.lt_of_lt_of_le HRL.out HF.out.size
        have HR3 : Hid (w2.heap[rb]? = some (.cells (chA czero (.slice none 0 0) (.slice none 0 0)) 40 (0, 0))) := (HF.out.block rb HRL.out HN1.out.2.1).trans HR2.out
        have HOW : Hid (∀ W, FrR ob w2 W → OwnG 2 extE 79 W w1.heap.size (.slice oa 20 oc) (fewC c).xs) := fun W hW => HO.out.move fun g hg hgl => hW.block g hgl (by have := HOB.out; omega)
        have HP24B : Hid (w2.cell? ⟨p0, 24, none⟩ = some (.slice fa fn fc)) := (HF.out.cell HPL.out HPO.out 24).trans HRW.out.files
        have HPL2 : Hid (p0 < w2.heap.size) := Nat.lt_of_lt_of_le HPL.out HF.out.size
        have HBW2 : Hid (Below w.heap.size w w2) := HB2.out.trans (HF.out.below HN1.out.2.2.2.2.2 HB2.out.size)
        go_wp2_with fail
        go_loopw [6] (fun i wt => ∃ (j : Nat) (ba : Option Addr) (bc : Nat), j ≤ 20 ∧ j ≤ fn ∧ i = .int .i64 (j : Int) ∧ OwnG 1 strE 9 wt w2.heap.size (.slice ba j bc) ((c.fs.take j).map (cutB 300)) ∧ (j = 0 → ba = none ∧ bc = 0) ∧ wt.heap[ob]? = some (.cells (chA (fewC c) (.slice oa 20 oc) (.slice ba j bc)) 40 (0, 0)) ∧ FrR ob w2 wt) (fun i _ => fn - (intOf i).toNat)
        case atStart => exact ⟨0, none, 0, Nat.zero_le _, Nat.zero_le _, rfl, by rw [List.take_zero]; exact OwnG.nil _ _ _, fun _ => ⟨rfl, rfl⟩, HR.out, FrR.refl _ _⟩
        case round =>
          rename World => wt
          obtain ⟨j, ba, bc, hj, hjn, rfl, hq, hnil, ht, hg⟩ := hrel
          have HQ := Lib.hid hq
          have HNIL := Lib.hid hnil
          have HT2 := Lib.hid ht
          have HG := Lib.hid hg
          have WJ := Lib.hid (next_int j (by omega))
          have HPC : Hid (∀ W, FrR ob w2 W → W.cell? ⟨p0, 24, none⟩ = some (.slice fa fn fc)) := fun W hW => (hW.cell HPL2.out HPO.out 24).trans HP24B.out
          have HPF := Lib.hid (HPC.out wt HG.out)
          have hpf := HPF.out
          clear hq hnil ht hg
          by_cases h1 : j = fn
          · subst h1
            have HEY : Hid ((c.fs.take j).map (cutB 300) = (fewC c).fs) := by show _ = List.map _ _; rw [List.take_of_length_le (by rw [HFN.out]; omega), List.take_of_length_le (by rw [HFN.out]; omega)]
            have HLJ : Hid ((fewC c).fs.length = j) := by rw [← HEY.out]; show _ = _; rw [List.length_map, List.length_take, HFN.out]; omega
            rw [HEY.out] at HQ
            clear hj hjn
            have HCL : Hid ((chL (fewC c) (.slice oa 20 oc) (.slice ba j bc)).toArray = chV (fewC c) oa oc ba bc) := by show _ = _; unfold chV; rw [HLK.out, HLJ.out]; rfl
            have HRF : Hid (wt.heap[rb]? = some (.cells (chA czero (.slice none 0 0) (.slice none 0 0)) 40 (0, 0))) := (HG.out.block rb HRL2.out HN1.out.2.1).trans HR3.out
            have HBF : Hid (Below w.heap.size w wt) := HB2.out.trans ((HF.out.below HN1.out.2.2.2.2.2 HB2.out.size).trans (HG.out.below HN1.out.2.2.2.2.2 (Nat.le_trans HB2.out.size HF.out.size)))
            have HOF : Hid (OwnG 2 extE 79 wt w1.heap.size (.slice oa 20 oc) (fewC c).xs) := HOW.out wt HG.out
            go_wp2_with (first
              | (refine wpList_load_mid rfl 40 _ rfl ob 0 rfl (chL (fewC c) (.slice oa 20 oc) (.slice ba j bc)) _ (ChRow.of HT2.out H20.out).cells Tryz.underlying40 rfl (info_ch (fewC c) _ _ H20.out) ?_
                 rw [HCL.out])
              | refine wpList_store_row rfl 40 _ _ rfl rb (chV (fewC c) oa oc ba bc) rfl rfl 40 (chA czero (.slice none 0 0) (.slice none 0 0)) HRF.out (info_chA (fewC c) _ _ H20.out) (by unfold chV; rw [chA_size _ _ _ czero_20, chA_size (fewC c) _ _ H20.out]) (chA_one _ _ _ rfl rfl) ?_)
            refine bodyPost_ret (results_cell_row Tryz.results18 _ _ rb 40 (chV (fewC c) oa oc ba bc) (0, 0) _ rfl (setRow_heap _ _ _ _ _ _ HRF.out) Tryz.underlying40 rfl (info_chA (fewC c) _ _ H20.out)) rfl ?_
            refine ⟨⟨oa, oc, ba, bc, rfl, H20.out, HBY.out, rowat_setRow (HOF.out.fs extE_len).1 (fun b' off' he _ => by have := HOF.out.base he; have := HRL.out; omega), rowat_setRow (HQ.out.fs strE_len).1 (fun b' off' he _ => by have := HQ.out.base he; have := HRL2.out; omega), fun e => HNIL.out (HLJ.out.symm.trans e)⟩, below_setRow HBF.out HN1.out.2.2.2.2.1 _⟩
          · have hjl : j < fn := by omega
            have hji : (j : Int) < (fn : Int) := by omega
            by_cases h2 : j = 20
            · subst h2
              have HEY : Hid ((c.fs.take 20).map (cutB 300) = (fewC c).fs) := by show _ = List.map _ _; rfl
              have HLJ : Hid ((fewC c).fs.length = 20) := by rw [← HEY.out]; show _ = _; rw [List.length_map, List.length_take, HFN.out]; omega
              rw [HEY.out] at HQ
              clear hj hjn
              have HCL : Hid ((chL (fewC c) (.slice oa 20 oc) (.slice ba 20 bc)).toArray = chV (fewC c) oa oc ba bc) := by show _ = _; unfold chV; rw [HLK.out, HLJ.out]; rfl
              have HRF : Hid (wt.heap[rb]? = some (.cells (chA czero (.slice none 0 0) (.slice none 0 0)) 40 (0, 0))) := (HG.out.block rb HRL2.out HN1.out.2.1).trans HR3.out
              have HBF : Hid (Below w.heap.size w wt) := HB2.out.trans ((HF.out.below HN1.out.2.2.2.2.2 HB2.out.size).trans (HG.out.below HN1.out.2.2.2.2.2 (Nat.le_trans HB2.out.size HF.out.size)))
              have HOF : Hid (OwnG 2 extE 79 wt w1.heap.size (.slice oa 20 oc) (fewC c).xs) := HOW.out wt HG.out
              go_wp2_with (first
                | (refine wpList_load_mid rfl 40 _ rfl ob 0 rfl (chL (fewC c) (.slice oa 20 oc) (.slice ba 20 bc)) _ (ChRow.of HT2.out H20.out).cells Tryz.underlying40 rfl (info_ch (fewC c) _ _ H20.out) ?_
                   rw [HCL.out])
                | refine wpList_store_row rfl 40 _ _ rfl rb (chV (fewC c) oa oc ba bc) rfl rfl 40 (chA czero (.slice none 0 0) (.slice none 0 0)) HRF.out (info_chA (fewC c) _ _ H20.out) (by unfold chV; rw [chA_size _ _ _ czero_20, chA_size (fewC c) _ _ H20.out]) (chA_one _ _ _ rfl rfl) ?_)
              refine bodyPost_ret (results_cell_row Tryz.results18 _ _ rb 40 (chV (fewC c) oa oc ba bc) (0, 0) _ rfl (setRow_heap _ _ _ _ _ _ HRF.out) Tryz.underlying40 rfl (info_chA (fewC c) _ _ H20.out)) rfl ?_
              refine ⟨⟨oa, oc, ba, bc, rfl, H20.out, HBY.out, rowat_setRow (HOF.out.fs extE_len).1 (fun b' off' he _ => by have := HOF.out.base he; have := HRL.out; omega), rowat_setRow (HQ.out.fs strE_len).1 (fun b' off' he _ => by have := HQ.out.base he; have := HRL2.out; omega), fun e => HNIL.out (HLJ.out.symm.trans e)⟩, below_setRow HBF.out HN1.out.2.2.2.2.1 _⟩
            · have HJN : Hid (j + 1 ≤ fn) := by show _ ≤ _; omega
              have HJ20 : Hid (j + 1 ≤ 20) := by show _ ≤ _; omega
              have hj3i : (j : Int) < 20 := by omega
              rcases HAF.out with h0 | ⟨b, off, rfl, hbl, hc⟩
              · rw [HFN.out] at h0; omega
              obtain ⟨y, hy⟩ : ∃ y, c.fs[j]? = some y := ⟨_, List.getElem?_eq_getElem (by rw [HFN.out]; exact hjl)⟩
              have HYR : Hid (∀ W, FrR ob w2 W → W.rangeAt b (off + j * 1) (strE y)) := fun W hW => hW.range (by have := HBW2.out.size; omega) (by have := HN1.out; omega) (range_below (hc j y hy) HBW2.out hbl)
              have HRY := Lib.hid (HYR.out _ HG.out)
              have HT : Hid ((c.fs.take (j + 1)).map (cutB 300) = (c.fs.take j).map (cutB 300) ++ [cutB 300 y]) := by show _ = _; rw [take_snoc hy, List.map_append]; rfl
              have HTL : Hid (((c.fs.take j).map (cutB 300)).length = j) := by show _ = _; rw [List.length_map, List.length_take, HFN.out]; omega
              have HJ1 : Hid (off + j = off + j * 1) := by show _ = _; omega
              have hm3 : min (y.size : Int) 300 = ((min y.size 300 : Nat) : Int) := by omega
              have hs3 : ∀ W, (Instr.slice 9 (.string y) none (some (.int .i64 ((min y.size 300 : Nat) : Int))) none).run Tryz.prog W = .ok (.string (cutB 300 y)) W := fun W => slice_front y (min y.size 300) (by omega) _ rfl W
              clear hy hbl hc hj hjn
              go_wp2_with fail
              have HF6 : Hid (FrR ob w2 (wt.drew.alloc (.cells (strE (cutB 300 y)).toArray 9))) := HG.out.drew.trans (FrR.of ((Below.refl _ _).alloc (Nat.le_refl _) _))
              have HO6 : Hid (OwnG 1 strE 9 (wt.drew.alloc (.cells (strE (cutB 300 y)).toArray 9)) w2.heap.size (.slice ba j bc) ((c.fs.take j).map (cutB 300))) := HQ.out.below ((Below.refl _ _).drew.alloc (Nat.le_refl _) _)
              have HR6 : Hid ((wt.drew.alloc (.cells (strE (cutB 300 y)).toArray 9)).heap[ob]? = some (.cells (chA (fewC c) (.slice oa 20 oc) (.slice ba j bc)) 40 (0, 0))) := (Below.heap_alloc _ _ _ (Array.getElem?_eq_some_iff.1 HT2.out).1).trans HT2.out
              have HQ1 := Lib.hid (HPC.out _ HF6.out)
              have HQ2 := Lib.hid (HYR.out _ HF6.out)
              refine wp_region_noPanic ?_
              refine wp_region_held_drew (S := fun W => W.cell? ⟨p0, 24, none⟩ = some (.slice (some ⟨b, off, none⟩) fn fc) ∧ W.rangeAt b (off + j * 1) (strE y)) (by kernel_rfl) ?_ (fun hHeld => ?_)
              · exact ⟨HPF.out, HRY.out⟩
              refine tkV 0 (v := ?_) (hw := ?_) (h := ?_)
              rotate_left
              · intro W hSW
                go_simp
                try with_reducible rfl
              try simp only [Act.put, List.setIfInBounds_toArray, List.set_cons_zero, List.set_cons_succ]
              refine tkV 2 (v := ?_) (hw := ?_) (h := ?_)
              rotate_left
              · intro W hSW
                go_simp
                try with_reducible rfl
              try simp only [Act.put, List.setIfInBounds_toArray, List.set_cons_zero, List.set_cons_succ]
              refine tkY 3 (hy := (yieldsIf_load_sl (by rfl) 38 _ rfl p0 24 rfl (.slice (some ⟨b, off, none⟩) fn fc) (fun W hSW => hSW.1) Tryz.underlying38)) (h := ?_)
              try simp only [Act.put, List.setIfInBounds_toArray, List.set_cons_zero, List.set_cons_succ]
              refine tkV 4 (v := ?_) (hw := ?_) (h := ?_)
              rotate_left
              · intro W hSW
                go_simp
                try with_reducible rfl
              try simp only [Act.put, List.setIfInBounds_toArray, List.set_cons_zero, List.set_cons_succ]
              refine tkV 5 (v := ?_) (hw := ?_) (h := ?_)
              rotate_left
              · intro W hSW
                go_simp
                try with_reducible rfl
              try simp only [Act.put, List.setIfInBounds_toArray, List.set_cons_zero, List.set_cons_succ]
              try rw [HJ1.out]
              refine tkY 6 (hy := (yieldsIf_load_str (by rfl) 9 _ rfl b (off + j * 1) rfl y (fun W hSW => range_str hSW.2) Tryz.underlying9)) (h := ?_)
              try simp only [Act.put, List.setIfInBounds_toArray, List.set_cons_zero, List.set_cons_succ]
              refine tkV 7 (v := ?_) (hw := ?_) (h := ?_)
              rotate_left
              · intro W hSW
                go_simp
                try with_reducible rfl
              try simp only [Act.put, List.setIfInBounds_toArray, List.set_cons_zero, List.set_cons_succ]
              refine tkY 8 (hy := (yieldsIf_load_sl (by rfl) 38 _ rfl p0 24 rfl (.slice (some ⟨b, off, none⟩) fn fc) (fun W hSW => hSW.1) Tryz.underlying38)) (h := ?_)
              try simp only [Act.put, List.setIfInBounds_toArray, List.set_cons_zero, List.set_cons_succ]
              refine tkV 9 (v := ?_) (hw := ?_) (h := ?_)
              rotate_left
              · intro W hSW
                go_simp
                try with_reducible rfl
              try simp only [Act.put, List.setIfInBounds_toArray, List.set_cons_zero, List.set_cons_succ]
              refine tkV 10 (v := ?_) (hw := ?_) (h := ?_)
              rotate_left
              · intro W hSW
                go_simp
                try with_reducible rfl
              try simp only [Act.put, List.setIfInBounds_toArray, List.set_cons_zero, List.set_cons_succ]
              try rw [HJ1.out]
              refine tkY 11 (hy := (yieldsIf_load_str (by rfl) 9 _ rfl b (off + j * 1) rfl y (fun W hSW => range_str hSW.2) Tryz.underlying9)) (h := ?_)
              try simp only [Act.put, List.setIfInBounds_toArray, List.set_cons_zero, List.set_cons_succ]
              refine tkV 12 (v := ?_) (hw := ?_) (h := ?_)
              rotate_left
              · intro W hSW
                go_simp
                try with_reducible rfl
              try simp only [Act.put, List.setIfInBounds_toArray, List.set_cons_zero, List.set_cons_succ]
              refine tkV 13 (v := ?_) (hw := ?_) (h := ?_)
              rotate_left
              · intro W hSW
                go_simp
                try with_reducible rfl
              try simp only [Act.put, List.setIfInBounds_toArray, List.set_cons_zero, List.set_cons_succ]
              refine tkV 14 (v := ?_) (hw := ?_) (h := ?_)
              rotate_left
              · intro W hSW
                go_simp
                try with_reducible rfl
              try simp only [Act.put, List.setIfInBounds_toArray, List.set_cons_zero, List.set_cons_succ]
              refine wpAnyH_ready (rs := [1, 15]) (by kernel_rfl) (by simp) ?_
              refine AllReadyH.cons (by simp only [List.getElem?_toArray, List.getElem?_cons_succ, List.getElem?_cons_zero]; rfl) (fun K hK => ?_) (AllReadyH.cons (by simp only [List.getElem?_toArray, List.getElem?_cons_succ, List.getElem?_cons_zero]; rfl) (fun K hK => ?_) AllReadyH.nil)
              · have hcod := (ChRow.of (w := wt.drew) (by exact HT2.out) H20.out).files
                go_simp
                refine hK.out _ _ (⟨HPF.out, HRY.out⟩) (fun hHeld2 => ?_)
                clear hK K hHeld
                have hHeld := hHeld2
                clear hHeld2
                try simp only [Act.put, List.setIfInBounds_toArray, List.set_cons_zero, List.set_cons_succ]
                clear hcod
                refine wpAnyH_ready (rs := [15]) (by kernel_rfl) (by simp) ?_
                refine AllReadyH.cons (by simp only [List.getElem?_toArray, List.getElem?_cons_succ, List.getElem?_cons_zero]; rfl) (fun K hK => ?_) AllReadyH.nil
                refine step_slice (by rfl) _ _ _ rfl #[(0, .string (cutB 300 y))] (map_one _ _ _ rfl) _ _ (slice_G1 elem_str (by decide) (by decide) (by decide) strE_len (cutB 300 y) _ rfl _) ?_
                refine hK.out _ _ (⟨HQ1.out, HQ2.out⟩) (fun hHeld2 => ?_)
                clear hK K hHeld
                have hHeld := hHeld2
                clear hHeld2
                try simp only [Act.put, List.setIfInBounds_toArray, List.set_cons_zero, List.set_cons_succ]
                refine wpAnyH_ready (rs := [16]) (by kernel_rfl) (by simp) ?_
                refine AllReadyH.cons (by simp only [List.getElem?_toArray, List.getElem?_cons_succ, List.getElem?_cons_zero]; rfl) (fun K hK => ?_) AllReadyH.nil
                refine step_append_G elem_str strE_len (by decide) (by decide) strE_one (by rfl) _ _ rfl w2.heap.size (.slice ba j bc) ((c.fs.take j).map (cutB 300)) j HTL.out rfl HO6.out wt.heap.size 0 1 1 [cutB 300 y] rfl (by decide) rfl (one_G wt.drew _ (cutB 300 y)) (j + 1) ((c.fs.take (j + 1)).map (cutB 300)) rfl HT.out.symm (by omega) HF6.out.size ?_
                rintro g2 gc2 w7 ho7 hg7 hgg hgl
                have HO7 := Lib.hid ho7
                have HF7 : Hid (FrR ob w2 w7) := HF6.out.grown hg7 (fun g hg => (HO6.out.lt hg).1)
                have HR7 : Hid (w7.heap[ob]? = some (.cells (chA (fewC c) (.slice oa 20 oc) (.slice ba j bc)) 40 (0, 0))) := (hg7.block ob (Array.getElem?_eq_some_iff.1 HR6.out).1 (fun e => by have h1 := (HO6.out.lt e.symm).1; have h2 := HOB.out; have h3 := HF.out.size; omega)).trans HR6.out
                have HP7 : Hid (w7.cell? ⟨p0, 24, none⟩ = some (.slice (some ⟨b, off, none⟩) fn fc)) := HPC.out w7 HF7.out
                have HX7 : Hid (w7.rangeAt b (off + j * 1) (strE y)) := HYR.out w7 HF7.out
                clear ho7 hg7 hgg hgl
                refine hK.out _ _ (⟨HP7.out, HX7.out⟩) (fun hHeld2 => ?_)
                clear hK K hHeld
                have hHeld := hHeld2
                clear hHeld2
                try simp only [Act.put, List.setIfInBounds_toArray, List.set_cons_zero, List.set_cons_succ]
                refine tkV 17 (v := ?_) (hw := ?_) (h := ?_)
                rotate_left
                · intro W hSW
                  go_simp
                  try with_reducible rfl
                try simp only [Act.put, List.setIfInBounds_toArray, List.set_cons_zero, List.set_cons_succ]
                have hco7 := (ChRow.of HR7.out H20.out).files
                have hfo7 := frozen_of_row w7 ob 24 _ _ HR7.out
                refine wpAnyH_ready (rs := [18]) (by kernel_rfl) (by simp) ?_
                refine AllReadyH.cons (by simp only [List.getElem?_toArray, List.getElem?_cons_succ, List.getElem?_cons_zero]; rfl) (fun K hK => ?_) AllReadyH.nil
                go_simp
                have HR8 : Hid ((w7.setCell ⟨ob, 24, none⟩ (.slice (some ⟨g2, 0, none⟩) (j + 1) gc2)).heap[ob]? = some (.cells (chA (fewC c) (.slice oa 20 oc) (.slice (some ⟨g2, 0, none⟩) (j + 1) gc2)) 40 (0, 0))) := by
                  show _ = _
                  rw [heap_setCell_same w7 ob 24 _ _ _ HR7.out, chA_set (fewC c) _ _ H20.out 4 _ _ rfl]
                  rfl
                have HF8 : Hid (FrR ob w2 (w7.setCell ⟨ob, 24, none⟩ (.slice (some ⟨g2, 0, none⟩) (j + 1) gc2))) := HF7.out.trans (FrR.setCell ob 24 _ _)
                have HO8 : Hid (OwnG 1 strE 9 (w7.setCell ⟨ob, 24, none⟩ (.slice (some ⟨g2, 0, none⟩) (j + 1) gc2)) w2.heap.size (.slice (some ⟨g2, 0, none⟩) (j + 1) gc2) ((c.fs.take (j + 1)).map (cutB 300))) := HO7.out.move fun g hg _ => heap_setCell_ne w7 ⟨ob, 24, none⟩ _ g (by have := HOB.out; have h3 := HF.out.size; show g ≠ ob; omega)
                refine hK.out _ _ (⟨HPC.out _ HF8.out, HYR.out _ HF8.out⟩) (fun hHeld2 => ?_)
                clear hK K hHeld
                have hHeld := hHeld2
                clear hHeld2
                try simp only [Act.put, List.setIfInBounds_toArray, List.set_cons_zero, List.set_cons_succ]
                refine wpAnyH_done (by kernel_rfl) ?_ _
                refine NoPanic.normal ?_
                clear hHeld hco7 hfo7
                go_wp2_with fail
                try rw [WJ.out ((j : Int) + 1) rfl]
                exact ⟨⟨j + 1, some ⟨g2, 0, none⟩, gc2, HJ20.out, HJN.out, rfl, HO8.out, fun e => absurd e (Nat.succ_ne_zero j), HR8.out, HF8.out⟩, by simp [intOf]; have h1 := HJN.out; omega⟩
              · refine step_slice (by rfl) _ _ _ rfl #[(0, .string (cutB 300 y))] (map_one _ _ _ rfl) _ _ (slice_G1 elem_str (by decide) (by decide) (by decide) strE_len (cutB 300 y) _ rfl _) ?_
                refine hK.out _ _ (⟨HQ1.out, HQ2.out⟩) (fun hHeld2 => ?_)
                clear hK K hHeld
                have hHeld := hHeld2
                clear hHeld2
                try simp only [Act.put, List.setIfInBounds_toArray, List.set_cons_zero, List.set_cons_succ]
                refine wpAnyH_ready (rs := [1]) (by kernel_rfl) (by simp) ?_
                refine AllReadyH.cons (by simp only [List.getElem?_toArray, List.getElem?_cons_succ, List.getElem?_cons_zero]; rfl) (fun K hK => ?_) AllReadyH.nil
                have hcod := (ChRow.of (w := wt.alloc (.cells (strE (cutB 300 y)).toArray 9)) (by exact HR6.out) H20.out).files
                go_simp
                try rw [show (wt.alloc (.cells (strE (cutB 300 y)).toArray 9)).drew = wt.drew.alloc (.cells (strE (cutB 300 y)).toArray 9) from rfl]
                refine hK.out _ _ (⟨HQ1.out, HQ2.out⟩) (fun hHeld2 => ?_)
                clear hK K hHeld
                have hHeld := hHeld2
                clear hHeld2
                try simp only [Act.put, List.setIfInBounds_toArray, List.set_cons_zero, List.set_cons_succ]
                clear hcod
                refine wpAnyH_ready (rs := [16]) (by kernel_rfl) (by simp) ?_
                refine AllReadyH.cons (by simp only [List.getElem?_toArray, List.getElem?_cons_succ, List.getElem?_cons_zero]; rfl) (fun K hK => ?_) AllReadyH.nil
                refine step_append_G elem_str strE_len (by decide) (by decide) strE_one (by rfl) _ _ rfl w2.heap.size (.slice ba j bc) ((c.fs.take j).map (cutB 300)) j HTL.out rfl HO6.out wt.heap.size 0 1 1 [cutB 300 y] rfl (by decide) rfl (one_G wt.drew _ (cutB 300 y)) (j + 1) ((c.fs.take (j + 1)).map (cutB 300)) rfl HT.out.symm (by omega) HF6.out.size ?_
                rintro g2 gc2 w7 ho7 hg7 hgg hgl
                have HO7 := Lib.hid ho7
                have HF7 : Hid (FrR ob w2 w7) := HF6.out.grown hg7 (fun g hg => (HO6.out.lt hg).1)
                have HR7 : Hid (w7.heap[ob]? = some (.cells (chA (fewC c) (.slice oa 20 oc) (.slice ba j bc)) 40 (0, 0))) := (hg7.block ob (Array.getElem?_eq_some_iff.1 HR6.out).1 (fun e => by have h1 := (HO6.out.lt e.symm).1; have h2 := HOB.out; have h3 := HF.out.size; omega)).trans HR6.out
                have HP7 : Hid (w7.cell? ⟨p0, 24, none⟩ = some (.slice (some ⟨b, off, none⟩) fn fc)) := HPC.out w7 HF7.out
                have HX7 : Hid (w7.rangeAt b (off + j * 1) (strE y)) := HYR.out w7 HF7.out
                clear ho7 hg7 hgg hgl
                refine hK.out _ _ (⟨HP7.out, HX7.out⟩) (fun hHeld2 => ?_)
                clear hK K hHeld
                have hHeld := hHeld2
                clear hHeld2
                try simp only [Act.put, List.setIfInBounds_toArray, List.set_cons_zero, List.set_cons_succ]
                refine tkV 17 (v := ?_) (hw := ?_) (h := ?_)
                rotate_left
                · intro W hSW
                  go_simp
                  try with_reducible rfl
                try simp only [Act.put, List.setIfInBounds_toArray, List.set_cons_zero, List.set_cons_succ]
                have hco7 := (ChRow.of HR7.out H20.out).files
                have hfo7 := frozen_of_row w7 ob 24 _ _ HR7.out
                refine wpAnyH_ready (rs := [18]) (by kernel_rfl) (by simp) ?_
                refine AllReadyH.cons (by simp only [List.getElem?_toArray, List.getElem?_cons_succ, List.getElem?_cons_zero]; rfl) (fun K hK => ?_) AllReadyH.nil
                go_simp
                have HR8 : Hid ((w7.setCell ⟨ob, 24, none⟩ (.slice (some ⟨g2, 0, none⟩) (j + 1) gc2)).heap[ob]? = some (.cells (chA (fewC c) (.slice oa 20 oc) (.slice (some ⟨g2, 0, none⟩) (j + 1) gc2)) 40 (0, 0))) := by
                  show _ = _
                  rw [heap_setCell_same w7 ob 24 _ _ _ HR7.out, chA_set (fewC c) _ _ H20.out 4 _ _ rfl]
                  rfl
                have HF8 : Hid (FrR ob w2 (w7.setCell ⟨ob, 24, none⟩ (.slice (some ⟨g2, 0, none⟩) (j + 1) gc2))) := HF7.out.trans (FrR.setCell ob 24 _ _)
                have HO8 : Hid (OwnG 1 strE 9 (w7.setCell ⟨ob, 24, none⟩ (.slice (some ⟨g2, 0, none⟩) (j + 1) gc2)) w2.heap.size (.slice (some ⟨g2, 0, none⟩) (j + 1) gc2) ((c.fs.take (j + 1)).map (cutB 300))) := HO7.out.move fun g hg _ => heap_setCell_ne w7 ⟨ob, 24, none⟩ _ g (by have := HOB.out; have h3 := HF.out.size; show g ≠ ob; omega)
                refine hK.out _ _ (⟨HPC.out _ HF8.out, HYR.out _ HF8.out⟩) (fun hHeld2 => ?_)
                clear hK K hHeld
                have hHeld := hHeld2
                clear hHeld2
                try simp only [Act.put, List.setIfInBounds_toArray, List.set_cons_zero, List.set_cons_succ]
                refine wpAnyH_done (by kernel_rfl) ?_ _
                refine NoPanic.normal ?_
                clear hHeld hco7 hfo7
                go_wp2_with fail
                try rw [WJ.out ((j : Int) + 1) rfl]
                exact ⟨⟨j + 1, some ⟨g2, 0, none⟩, gc2, HJ20.out, HJN.out, rfl, HO8.out, fun e => absurd e (Nat.succ_ne_zero j), HR8.out, HF8.out⟩, by simp [intOf]; have h1 := HJN.out; omega⟩
      · have HKN : Hid (k + 1 ≤ n) := by show _ ≤ _; omega
        have HK20 : Hid (k + 1 ≤ 20) := by show _ ≤ _; omega
        have hk3i : (k : Int) < 20 := by omega
        rcases HAX.out with h0 | ⟨b, off, rfl, hbl, hc⟩
        · rw [HN.out] at h0; omega
        obtain ⟨x, hp⟩ : ∃ x, c.xs[k]? = some x := ⟨_, List.getElem?_eq_getElem (by rw [HN.out]; exact hkl)⟩
        have HRX : Hid (wr.rangeAt b (off + k * 2) (extE x)) := HF.out.range (by have := HB2.out.size; omega) (by have := HN1.out; omega) (range_below (hc k x hp) HB2.out hbl)
        have HT : Hid ((c.xs.take (k + 1)).map fewX = (c.xs.take k).map fewX ++ [fewX x]) := by show _ = _; rw [take_snoc hp, List.map_append]; rfl
        have hze := zero_rext
        have HZX : Hid ((wr.alloc (.cells #[.string ⟨#[]⟩, .string ⟨#[]⟩] 63)).heap[wr.heap.size]? = some (.cells #[.string ⟨#[]⟩, .string ⟨#[]⟩] 63 (0, 0))) := heap_alloc_new _ _
        have HXA : Hid (((wr.alloc (.cells #[.string ⟨#[]⟩, .string ⟨#[]⟩] 63)).setRow wr.heap.size (extE x).toArray).heap[wr.heap.size]? = some (.cells (extE x).toArray 63 (0, 0))) := setRow_heap _ _ _ _ _ _ HZX.out
        have HBS : Hid (Below wr.heap.size wr ((wr.alloc (.cells #[.string ⟨#[]⟩, .string ⟨#[]⟩] 63)).setRow wr.heap.size (extE x).toArray)) := below_setRow ((Below.refl _ _).alloc (Nat.le_refl _) _) (Nat.le_refl _) _
        have hm1 : min (x.1.size : Int) 150 = ((min x.1.size 150 : Nat) : Int) := by omega
        have hm2 : min (x.2.size : Int) 200 = ((min x.2.size 200 : Nat) : Int) := by omega
        have hs1 : ∀ W, (Instr.slice 9 (.string x.1) none (some (.int .i64 ((min x.1.size 150 : Nat) : Int))) none).run Tryz.prog W = .ok (.string (fewX x).1) W := fun W => slice_front x.1 (min x.1.size 150) (by omega) _ rfl W
        have hs2 : ∀ W, (Instr.slice 9 (.string x.2) none (some (.int .i64 ((min x.2.size 200 : Nat) : Int))) none).run Tryz.prog W = .ok (.string (fewX x).2) W := fun W => slice_front x.2 (min x.2.size 200) (by omega) _ rfl W
        clear hp hbl hc hk hkn
        go_wp2_with (first
          | refine wpList_load_mid rfl 63 _ rfl b (off + k * 2) rfl (extE x) _ HRX.out Tryz.underlying63 rfl (info_rext x) ?_
          | refine wpList_store_row rfl 63 _ _ rfl wr.heap.size (extE x).toArray rfl rfl 63 #[.string ⟨#[]⟩, .string ⟨#[]⟩] HZX.out (info_rextA x) rfl (extA_one x) ?_)
        obtain ⟨w3, hw3⟩ : ∃ W, (wr.alloc (.cells #[.string ⟨#[]⟩, .string ⟨#[]⟩] 63)).setRow wr.heap.size (extE x).toArray = W := ⟨_, rfl⟩
        rw [hw3] at HXA HBS ⊢
        clear hw3 HZX hze HRX
        have HF3 : Hid (FrR ob w1 w3) := HF.out.trans (FrR.of HBS.out)
        have HR3 : Hid (w3.heap[ob]? = some (.cells (chA (fewC c) (.slice oa k oc) (.slice none 0 0)) 40 (0, 0))) := (HBS.out.block ob (Array.getElem?_eq_some_iff.1 HR.out).1).trans HR.out
        have HO3 : Hid (OwnG 2 extE 79 w3 w1.heap.size (.slice oa k oc) ((c.xs.take k).map fewX)) := HO.out.below HBS.out
        obtain ⟨bx, hbx⟩ : ∃ b, wr.heap.size = b := ⟨_, rfl⟩
        have HBX : Hid (∀ g, (Value.slice oa k oc).ownBlock = some g → g ≠ bx) := fun g hg => by have := (HO.out.lt hg).2; omega
        have HNX : Hid (bx ≠ ob) := by have := (Array.getElem?_eq_some_iff.1 HR.out).1; show _ ≠ _; omega
        rw [hbx] at HXA ⊢
        clear hbx HBS
        have HX0 : Hid (w3.cell? ⟨bx, 0, none⟩ = some (.string x.1)) := by show _ = _; rw [cell_of_row _ _ _ _ _ _ HXA.out]; rfl
        have HX1 : Hid (w3.cell? ⟨bx, 1, none⟩ = some (.string x.2)) := by show _ = _; rw [cell_of_row _ _ _ _ _ _ HXA.out]; rfl
        have HF6 : Hid (FrR ob w1 (w3.drew.alloc (.cells (extE (fewX x)).toArray 79))) := HF3.out.drew.trans (FrR.of ((Below.refl _ _).alloc (Nat.le_refl _) _))
        have HO6 : Hid (OwnG 2 extE 79 (w3.drew.alloc (.cells (extE (fewX x)).toArray 79)) w1.heap.size (.slice oa k oc) ((c.xs.take k).map fewX)) := HO3.out.below ((Below.refl _ _).drew.alloc (Nat.le_refl _) _)
        have HR6 : Hid ((w3.drew.alloc (.cells (extE (fewX x)).toArray 79)).heap[ob]? = some (.cells (chA (fewC c) (.slice oa k oc) (.slice none 0 0)) 40 (0, 0))) := (Below.heap_alloc _ _ _ (Array.getElem?_eq_some_iff.1 HR3.out).1).trans HR3.out
        have HX6 : Hid ((w3.drew.alloc (.cells (extE (fewX x)).toArray 79)).heap[bx]? = some (.cells (extE x).toArray 63 (0, 0))) := (Below.heap_alloc _ _ _ (Array.getElem?_eq_some_iff.1 HXA.out).1).trans HXA.out
        have HQ1 : Hid ((w3.drew.alloc (.cells (extE (fewX x)).toArray 79)).cell? ⟨bx, 0, none⟩ = some (.string x.1)) := by show _ = _; rw [cell_of_row _ _ _ _ _ _ HX6.out]; rfl
        have HQ2 : Hid ((w3.drew.alloc (.cells (extE (fewX x)).toArray 79)).cell? ⟨bx, 1, none⟩ = some (.string x.2)) := by show _ = _; rw [cell_of_row _ _ _ _ _ _ HX6.out]; rfl
        refine wp_region_noPanic ?_
        refine wp_region_held_drew (S := fun W => W.cell? ⟨bx, 0, none⟩ = some (.string x.1) ∧ W.cell? ⟨bx, 1, none⟩ = some (.string x.2)) (by kernel_rfl) ?_ (fun hHeld => ?_)
        · exact ⟨HX0.out, HX1.out⟩
        refine tkV 0 (v := ?_) (hw := ?_) (h := ?_)
        rotate_left
        · intro W hSW
          go_simp
          try with_reducible rfl
        try simp only [Act.put, List.setIfInBounds_toArray, List.set_cons_zero, List.set_cons_succ]
        refine tkV 2 (v := ?_) (hw := ?_) (h := ?_)
        rotate_left
        · intro W hSW
          go_simp
          try with_reducible rfl
        try simp only [Act.put, List.setIfInBounds_toArray, List.set_cons_zero, List.set_cons_succ]
        refine tkY 3 (hy := (yieldsIf_load_str (by rfl) 9 _ rfl bx 0 rfl x.1 (fun W hSW => hSW.1) Tryz.underlying9)) (h := ?_)
        try simp only [Act.put, List.setIfInBounds_toArray, List.set_cons_zero, List.set_cons_succ]
        refine tkV 4 (v := ?_) (hw := ?_) (h := ?_)
        rotate_left
        · intro W hSW
          go_simp
          try with_reducible rfl
        try simp only [Act.put, List.setIfInBounds_toArray, List.set_cons_zero, List.set_cons_succ]
        refine tkY 5 (hy := (yieldsIf_load_str (by rfl) 9 _ rfl bx 0 rfl x.1 (fun W hSW => hSW.1) Tryz.underlying9)) (h := ?_)
        try simp only [Act.put, List.setIfInBounds_toArray, List.set_cons_zero, List.set_cons_succ]
        refine tkV 6 (v := ?_) (hw := ?_) (h := ?_)
        rotate_left
        · intro W hSW
          go_simp
          try with_reducible rfl
        try simp only [Act.put, List.setIfInBounds_toArray, List.set_cons_zero, List.set_cons_succ]
        refine tkV 7 (v := ?_) (hw := ?_) (h := ?_)
        rotate_left
        · intro W hSW
          go_simp
          try with_reducible rfl
        try simp only [Act.put, List.setIfInBounds_toArray, List.set_cons_zero, List.set_cons_succ]
        refine tkV 8 (v := ?_) (hw := ?_) (h := ?_)
        rotate_left
        · intro W hSW
          go_simp
          try with_reducible rfl
        try simp only [Act.put, List.setIfInBounds_toArray, List.set_cons_zero, List.set_cons_succ]
        refine tkV 9 (v := ?_) (hw := ?_) (h := ?_)
        rotate_left
        · intro W hSW
          go_simp
          try with_reducible rfl
        try simp only [Act.put, List.setIfInBounds_toArray, List.set_cons_zero, List.set_cons_succ]
        refine tkY 10 (hy := (yieldsIf_load_str (by rfl) 9 _ rfl bx 1 rfl x.2 (fun W hSW => hSW.2) Tryz.underlying9)) (h := ?_)
        try simp only [Act.put, List.setIfInBounds_toArray, List.set_cons_zero, List.set_cons_succ]
        refine tkV 11 (v := ?_) (hw := ?_) (h := ?_)
        rotate_left
        · intro W hSW
          go_simp
          try with_reducible rfl
        try simp only [Act.put, List.setIfInBounds_toArray, List.set_cons_zero, List.set_cons_succ]
        refine tkY 12 (hy := (yieldsIf_load_str (by rfl) 9 _ rfl bx 1 rfl x.2 (fun W hSW => hSW.2) Tryz.underlying9)) (h := ?_)
        try simp only [Act.put, List.setIfInBounds_toArray, List.set_cons_zero, List.set_cons_succ]
        refine tkV 13 (v := ?_) (hw := ?_) (h := ?_)
        rotate_left
        · intro W hSW
          go_simp
          try with_reducible rfl
        try simp only [Act.put, List.setIfInBounds_toArray, List.set_cons_zero, List.set_cons_succ]
        refine tkV 14 (v := ?_) (hw := ?_) (h := ?_)
        rotate_left
        · intro W hSW
          go_simp
          try with_reducible rfl
        try simp only [Act.put, List.setIfInBounds_toArray, List.set_cons_zero, List.set_cons_succ]
        refine tkV 15 (v := ?_) (hw := ?_) (h := ?_)
        rotate_left
        · intro W hSW
          go_simp
          try with_reducible rfl
        try simp only [Act.put, List.setIfInBounds_toArray, List.set_cons_zero, List.set_cons_succ]
        refine tkY 16 (hy := (yieldsIf_build (by rfl) _ _ rfl #[(0, .string (fewX x).1), (1, .string (fewX x).2)] (map_two _ _ _ _ _ rfl rfl) (.agg (extE (fewX x)).toArray) (fun W => build_ext _ _ W))) (h := ?_)
        try simp only [Act.put, List.setIfInBounds_toArray, List.set_cons_zero, List.set_cons_succ]
        refine wpAnyH_ready (rs := [1, 17]) (by kernel_rfl) (by simp) ?_
        refine AllReadyH.cons (by simp only [List.getElem?_toArray, List.getElem?_cons_succ, List.getElem?_cons_zero]; rfl) (fun K hK => ?_) (AllReadyH.cons (by simp only [List.getElem?_toArray, List.getElem?_cons_succ, List.getElem?_cons_zero]; rfl) (fun K hK => ?_) AllReadyH.nil)
        · have hcod := (ChRow.of (w := w3.drew) (by exact HR3.out) H20.out).exts
          go_simp
          refine hK.out _ _ (⟨HX0.out, HX1.out⟩) (fun hHeld2 => ?_)
          clear hK K hHeld
          have hHeld := hHeld2
          clear hHeld2
          try simp only [Act.put, List.setIfInBounds_toArray, List.set_cons_zero, List.set_cons_succ]
          clear hcod
          refine wpAnyH_ready (rs := [17]) (by kernel_rfl) (by simp) ?_
          refine AllReadyH.cons (by simp only [List.getElem?_toArray, List.getElem?_cons_succ, List.getElem?_cons_zero]; rfl) (fun K hK => ?_) AllReadyH.nil
          refine step_slice (by rfl) _ _ _ rfl #[(0, .agg (extE (fewX x)).toArray)] (map_one _ _ _ rfl) _ _ (slice_G1 elem_ext (by decide) (by decide) (by decide) extE_len (fewX x) _ rfl _) ?_
          refine hK.out _ _ (⟨HQ1.out, HQ2.out⟩) (fun hHeld2 => ?_)
          clear hK K hHeld
          have hHeld := hHeld2
          clear hHeld2
          try simp only [Act.put, List.setIfInBounds_toArray, List.set_cons_zero, List.set_cons_succ]
          refine wpAnyH_ready (rs := [18]) (by kernel_rfl) (by simp) ?_
          refine AllReadyH.cons (by simp only [List.getElem?_toArray, List.getElem?_cons_succ, List.getElem?_cons_zero]; rfl) (fun K hK => ?_) AllReadyH.nil
          refine step_append_G elem_ext extE_len (by decide) (by decide) extE_one (by rfl) _ _ rfl w1.heap.size (.slice oa k oc) ((c.xs.take k).map fewX) k HTL.out rfl HO6.out w3.heap.size 0 1 1 [fewX x] rfl (by decide) rfl (one_G w3.drew _ (fewX x)) (k + 1) ((c.xs.take (k + 1)).map fewX) rfl HT.out.symm (by omega) HF6.out.size ?_
          rintro g2 gc2 w7 ho7 hg7 hgg hgl
          have HO7 := Lib.hid ho7
          have HF7 : Hid (FrR ob w1 w7) := HF6.out.grown hg7 (fun g hg => (HO6.out.lt hg).1)
          have HR7 : Hid (w7.heap[ob]? = some (.cells (chA (fewC c) (.slice oa k oc) (.slice none 0 0)) 40 (0, 0))) := (hg7.block ob (Array.getElem?_eq_some_iff.1 HR6.out).1 (fun e => by have h1 := (HO6.out.lt e.symm).1; have h2 := HOB.out; omega)).trans HR6.out
          have HX7 : Hid (w7.heap[bx]? = some (.cells (extE x).toArray 63 (0, 0))) := (hg7.block bx (Array.getElem?_eq_some_iff.1 HX6.out).1 (fun e => HBX.out bx e.symm rfl)).trans HX6.out
          have HX70 : Hid (w7.cell? ⟨bx, 0, none⟩ = some (.string x.1)) := by show _ = _; rw [cell_of_row _ _ _ _ _ _ HX7.out]; rfl
          have HX71 : Hid (w7.cell? ⟨bx, 1, none⟩ = some (.string x.2)) := by show _ = _; rw [cell_of_row _ _ _ _ _ _ HX7.out]; rfl
          clear ho7 hg7 hgg hgl
          refine hK.out _ _ (⟨HX70.out, HX71.out⟩) (fun hHeld2 => ?_)
          clear hK K hHeld
          have hHeld := hHeld2
          clear hHeld2
          try simp only [Act.put, List.setIfInBounds_toArray, List.set_cons_zero, List.set_cons_succ]
          refine tkV 19 (v := ?_) (hw := ?_) (h := ?_)
          rotate_left
          · intro W hSW
            go_simp
            try with_reducible rfl
          try simp only [Act.put, List.setIfInBounds_toArray, List.set_cons_zero, List.set_cons_succ]
          have hco7 := (ChRow.of HR7.out H20.out).exts
          have hfo7 := frozen_of_row w7 ob 23 _ _ HR7.out
          refine wpAnyH_ready (rs := [20]) (by kernel_rfl) (by simp) ?_
          refine AllReadyH.cons (by simp only [List.getElem?_toArray, List.getElem?_cons_succ, List.getElem?_cons_zero]; rfl) (fun K hK => ?_) AllReadyH.nil
          go_simp
          have HR8 : Hid ((w7.setCell ⟨ob, 23, none⟩ (.slice (some ⟨g2, 0, none⟩) (k + 1) gc2)).heap[ob]? = some (.cells (chA (fewC c) (.slice (some ⟨g2, 0, none⟩) (k + 1) gc2) (.slice none 0 0)) 40 (0, 0))) := by
            show _ = _
            rw [heap_setCell_same w7 ob 23 _ _ _ HR7.out, chA_set (fewC c) _ _ H20.out 3 _ _ rfl]
            rfl
          have HF8 : Hid (FrR ob w1 (w7.setCell ⟨ob, 23, none⟩ (.slice (some ⟨g2, 0, none⟩) (k + 1) gc2))) := HF7.out.trans (FrR.setCell ob 23 _ _)
          have HO8 : Hid (OwnG 2 extE 79 (w7.setCell ⟨ob, 23, none⟩ (.slice (some ⟨g2, 0, none⟩) (k + 1) gc2)) w1.heap.size (.slice (some ⟨g2, 0, none⟩) (k + 1) gc2) ((c.xs.take (k + 1)).map fewX)) := HO7.out.move fun g hg _ => heap_setCell_ne w7 ⟨ob, 23, none⟩ _ g (by have := HOB.out; show g ≠ ob; omega)
          refine hK.out _ _ (⟨(heap_cell_ne w7 ob 23 _ bx 0 HNX.out).trans HX70.out, (heap_cell_ne w7 ob 23 _ bx 1 HNX.out).trans HX71.out⟩) (fun hHeld2 => ?_)
          clear hK K hHeld
          have hHeld := hHeld2
          clear hHeld2
          try simp only [Act.put, List.setIfInBounds_toArray, List.set_cons_zero, List.set_cons_succ]
          refine wpAnyH_done (by kernel_rfl) ?_ _
          refine NoPanic.normal ?_
          clear hHeld hco7 hfo7
          go_wp2_with fail
          try rw [WK.out ((k : Int) + 1) rfl]
          exact ⟨⟨k + 1, some ⟨g2, 0, none⟩, gc2, HK20.out, HKN.out, rfl, HO8.out, HR8.out, HF8.out⟩, by simp [intOf]; have h1 := HKN.out; omega⟩
        · refine step_slice (by rfl) _ _ _ rfl #[(0, .agg (extE (fewX x)).toArray)] (map_one _ _ _ rfl) _ _ (slice_G1 elem_ext (by decide) (by decide) (by decide) extE_len (fewX x) _ rfl _) ?_
          refine hK.out _ _ (⟨HQ1.out, HQ2.out⟩) (fun hHeld2 => ?_)
          clear hK K hHeld
          have hHeld := hHeld2
          clear hHeld2
          try simp only [Act.put, List.setIfInBounds_toArray, List.set_cons_zero, List.set_cons_succ]
          refine wpAnyH_ready (rs := [1]) (by kernel_rfl) (by simp) ?_
          refine AllReadyH.cons (by simp only [List.getElem?_toArray, List.getElem?_cons_succ, List.getElem?_cons_zero]; rfl) (fun K hK => ?_) AllReadyH.nil
          have hcod := (ChRow.of (w := w3.alloc (.cells (extE (fewX x)).toArray 79)) (by exact HR6.out) H20.out).exts
          go_simp
          try rw [show (w3.alloc (.cells (extE (fewX x)).toArray 79)).drew = w3.drew.alloc (.cells (extE (fewX x)).toArray 79) from rfl]
          refine hK.out _ _ (⟨HQ1.out, HQ2.out⟩) (fun hHeld2 => ?_)
          clear hK K hHeld
          have hHeld := hHeld2
          clear hHeld2
          try simp only [Act.put, List.setIfInBounds_toArray, List.set_cons_zero, List.set_cons_succ]
          clear hcod
          refine wpAnyH_ready (rs := [18]) (by kernel_rfl) (by simp) ?_
          refine AllReadyH.cons (by simp only [List.getElem?_toArray, List.getElem?_cons_succ, List.getElem?_cons_zero]; rfl) (fun K hK => ?_) AllReadyH.nil
          refine step_append_G elem_ext extE_len (by decide) (by decide) extE_one (by rfl) _ _ rfl w1.heap.size (.slice oa k oc) ((c.xs.take k).map fewX) k HTL.out rfl HO6.out w3.heap.size 0 1 1 [fewX x] rfl (by decide) rfl (one_G w3.drew _ (fewX x)) (k + 1) ((c.xs.take (k + 1)).map fewX) rfl HT.out.symm (by omega) HF6.out.size ?_
          rintro g2 gc2 w7 ho7 hg7 hgg hgl
          have HO7 := Lib.hid ho7
          have HF7 : Hid (FrR ob w1 w7) := HF6.out.grown hg7 (fun g hg => (HO6.out.lt hg).1)
          have HR7 : Hid (w7.heap[ob]? = some (.cells (chA (fewC c) (.slice oa k oc) (.slice none 0 0)) 40 (0, 0))) := (hg7.block ob (Array.getElem?_eq_some_iff.1 HR6.out).1 (fun e => by have h1 := (HO6.out.lt e.symm).1; have h2 := HOB.out; omega)).trans HR6.out
          have HX7 : Hid (w7.heap[bx]? = some (.cells (extE x).toArray 63 (0, 0))) := (hg7.block bx (Array.getElem?_eq_some_iff.1 HX6.out).1 (fun e => HBX.out bx e.symm rfl)).trans HX6.out
          have HX70 : Hid (w7.cell? ⟨bx, 0, none⟩ = some (.string x.1)) := by show _ = _; rw [cell_of_row _ _ _ _ _ _ HX7.out]; rfl
          have HX71 : Hid (w7.cell? ⟨bx, 1, none⟩ = some (.string x.2)) := by show _ = _; rw [cell_of_row _ _ _ _ _ _ HX7.out]; rfl
          clear ho7 hg7 hgg hgl
          refine hK.out _ _ (⟨HX70.out, HX71.out⟩) (fun hHeld2 => ?_)
          clear hK K hHeld
          have hHeld := hHeld2
          clear hHeld2
          try simp only [Act.put, List.setIfInBounds_toArray, List.set_cons_zero, List.set_cons_succ]
          refine tkV 19 (v := ?_) (hw := ?_) (h := ?_)
          rotate_left
          · intro W hSW
            go_simp
            try with_reducible rfl
          try simp only [Act.put, List.setIfInBounds_toArray, List.set_cons_zero, List.set_cons_succ]
          have hco7 := (ChRow.of HR7.out H20.out).exts
          have hfo7 := frozen_of_row w7 ob 23 _ _ HR7.out
          refine wpAnyH_ready (rs := [20]) (by kernel_rfl) (by simp) ?_
          refine AllReadyH.cons (by simp only [List.getElem?_toArray, List.getElem?_cons_succ, List.getElem?_cons_zero]; rfl) (fun K hK => ?_) AllReadyH.nil
          go_simp
          have HR8 : Hid ((w7.setCell ⟨ob, 23, none⟩ (.slice (some ⟨g2, 0, none⟩) (k + 1) gc2)).heap[ob]? = some (.cells (chA (fewC c) (.slice (some ⟨g2, 0, none⟩) (k + 1) gc2) (.slice none 0 0)) 40 (0, 0))) := by
            show _ = _
            rw [heap_setCell_same w7 ob 23 _ _ _ HR7.out, chA_set (fewC c) _ _ H20.out 3 _ _ rfl]
            rfl
          have HF8 : Hid (FrR ob w1 (w7.setCell ⟨ob, 23, none⟩ (.slice (some ⟨g2, 0, none⟩) (k + 1) gc2))) := HF7.out.trans (FrR.setCell ob 23 _ _)
          have HO8 : Hid (OwnG 2 extE 79 (w7.setCell ⟨ob, 23, none⟩ (.slice (some ⟨g2, 0, none⟩) (k + 1) gc2)) w1.heap.size (.slice (some ⟨g2, 0, none⟩) (k + 1) gc2) ((c.xs.take (k + 1)).map fewX)) := HO7.out.move fun g hg _ => heap_setCell_ne w7 ⟨ob, 23, none⟩ _ g (by have := HOB.out; show g ≠ ob; omega)
          refine hK.out _ _ (⟨(heap_cell_ne w7 ob 23 _ bx 0 HNX.out).trans HX70.out, (heap_cell_ne w7 ob 23 _ bx 1 HNX.out).trans HX71.out⟩) (fun hHeld2 => ?_)
          clear hK K hHeld
          have hHeld := hHeld2
          clear hHeld2
          try simp only [Act.put, List.setIfInBounds_toArray, List.set_cons_zero, List.set_cons_succ]
          refine wpAnyH_done (by kernel_rfl) ?_ _
          refine NoPanic.normal ?_
          clear hHeld hco7 hfo7
          go_wp2_with fail
          try rw [WK.out ((k : Int) + 1) rfl]
          exact ⟨⟨k + 1, some ⟨g2, 0, none⟩, gc2, HK20.out, HKN.out, rfl, HO8.out, HR8.out, HF8.out⟩, by simp [intOf]; have h1 := HKN.out; omega⟩
end Go.Proofs.YtkpiinjhcckhfaaGreatDoor
