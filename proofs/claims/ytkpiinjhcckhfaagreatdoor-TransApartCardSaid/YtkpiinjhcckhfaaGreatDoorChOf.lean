/- The document's change of the program's: the walk. -/
import Derived.Test.YtkpiinjhcckhfaaGreatDoorChMake
namespace Go.Proofs.YtkpiinjhcckhfaaGreatDoor
open Go.RowKit Plain Go.ChangeShapes Go.WideShapes Go.ChangeAt Go.Great
set_option linter.unusedVariables false
set_option linter.unusedSimpArgs false
theorem FrR.cell {r k : Nat} {w w' : World} (h : FrR r w w') (hk : k < w.heap.size) (hn : k ≠ r) (o : Nat) : w'.cell? ⟨k, o, none⟩ = w.cell? ⟨k, o, none⟩ := by
  unfold World.cell?
  rw [h.block k hk hn]
theorem FrR.range {r k o : Nat} {w w' : World} {cs : List Value} (h : FrR r w w') (hk : k < w.heap.size) (hn : k ≠ r) (hr : w.rangeAt k o cs) : w'.rangeAt k o cs := fun j v hj => (h.cell hk hn (o + j)).trans (hr j v hj)
theorem FrR.drew {r : Nat} {w w' : World} (h : FrR r w w') : FrR r w w'.drew := h.trans (FrR.of (Below.refl _ _).drew)
/-- A change of the document's, made of one of the program's. -/
def ChOf (e : Ending) (w' : World) (c : CX) : Prop := ∃ xa xc fa fc, e = .returned (.agg (chV c xa xc fa fc)) ∧ RowAt 2 extE w' xa c.xs ∧ RowAt 1 strE w' fa c.fs
set_option maxRecDepth 100000 in
set_option maxHeartbeats 32000000 in
theorem chof_any (c : CX) (xa : Option Addr) (xc : Nat) (fa : Option Addr) (fc : Nat) (w : World) (h : ChAt w c xa xc fa fc) (hs : c.xs.length ≤ 100000) (hsf : c.fs.length ≤ 100000) :
    Calls Tryz.prog 15 #[.agg (chV c xa xc fa fc)] w fun e w' => ChOf e w' c ∧ Below w.heap.size w w' := by
  obtain ⟨n, hN⟩ : ∃ n, c.xs.length = n := ⟨_, rfl⟩
  obtain ⟨fn, hFN⟩ : ∃ n, c.fs.length = n := ⟨_, rfl⟩
  have HN := Lib.hid hN
  have HFN := Lib.hid hFN
  have HNB : Hid (n ≤ 100000) := by rw [← hN]; exact hs
  have HFB : Hid (fn ≤ 100000) := by rw [← hFN]; exact hsf
  have HAX := Lib.hid h.exts
  have HAF := Lib.hid h.files
  have HFNIL : Hid (fn = 0 → fa = none ∧ fc = 0) := by rw [← hFN]; exact h.fnil
  have H20 := Lib.hid h.n20
  unfold chV
  rw [hN, hFN]
  have hzr := zero_rch
  have HB0 : Hid (Below w.heap.size w ((w.alloc (.cells (chA c (.slice xa n xc) (.slice fa fn fc)) 40)).alloc (.cells (chA czero (.slice none 0 0) (.slice none 0 0)) 49))) := ((Below.refl _ _).alloc (Nat.le_refl _) _).alloc (by simp) _
  have HP0 : Hid (((w.alloc (.cells (chA c (.slice xa n xc) (.slice fa fn fc)) 40)).alloc (.cells (chA czero (.slice none 0 0) (.slice none 0 0)) 49)).heap[w.heap.size]? = some (.cells (chA c (.slice xa n xc) (.slice fa fn fc)) 40 (0, 0))) := (Below.heap_alloc _ _ _ (by simp)).trans (heap_alloc_new _ _)
  have HR0 : Hid (((w.alloc (.cells (chA c (.slice xa n xc) (.slice fa fn fc)) 40)).alloc (.cells (chA czero (.slice none 0 0) (.slice none 0 0)) 49)).heap[w.heap.size + 1]? = some (.cells (chA czero (.slice none 0 0) (.slice none 0 0)) 49 (0, 0))) := by
    have h1 := heap_alloc_new (w.alloc (.cells (chA c (.slice xa n xc) (.slice fa fn fc)) 40)) (.cells (chA czero (.slice none 0 0) (.slice none 0 0)) 49)
    rw [show (w.alloc (.cells (chA c (.slice xa n xc) (.slice fa fn fc)) 40)).heap.size = w.heap.size + 1 by simp] at h1
    exact h1
  have HS0 : Hid (((w.alloc (.cells (chA c (.slice xa n xc) (.slice fa fn fc)) 40)).alloc (.cells (chA czero (.slice none 0 0) (.slice none 0 0)) 49)).heap.size = w.heap.size + 1 + 1) := by show _ = _; simp
  have HG0 : Hid ((((w.alloc (.cells (chA c (.slice xa n xc) (.slice fa fn fc)) 40)).alloc (.cells (chA czero (.slice none 0 0) (.slice none 0 0)) 49)).alloc (.cells (chA czero (.slice none 0 0) (.slice none 0 0)) 49)).heap[w.heap.size + 1 + 1]? = some (.cells (chA czero (.slice none 0 0) (.slice none 0 0)) 49 (0, 0))) := by
    have h1 := heap_alloc_new ((w.alloc (.cells (chA c (.slice xa n xc) (.slice fa fn fc)) 40)).alloc (.cells (chA czero (.slice none 0 0) (.slice none 0 0)) 49)) (.cells (chA czero (.slice none 0 0) (.slice none 0 0)) 49)
    rw [HS0.out] at h1
    exact h1
  have HB1 : Hid (Below w.heap.size w (((w.alloc (.cells (chA c (.slice xa n xc) (.slice fa fn fc)) 40)).alloc (.cells (chA czero (.slice none 0 0) (.slice none 0 0)) 49)).alloc (.cells (chA czero (.slice none 0 0) (.slice none 0 0)) 49))) := HB0.out.alloc HB0.out.size _
  have HP1 : Hid ((((w.alloc (.cells (chA c (.slice xa n xc) (.slice fa fn fc)) 40)).alloc (.cells (chA czero (.slice none 0 0) (.slice none 0 0)) 49)).alloc (.cells (chA czero (.slice none 0 0) (.slice none 0 0)) 49)).heap[w.heap.size]? = some (.cells (chA c (.slice xa n xc) (.slice fa fn fc)) 40 (0, 0))) := (Below.heap_alloc _ _ _ (by simp; omega)).trans HP0.out
  have HR1 : Hid ((((w.alloc (.cells (chA c (.slice xa n xc) (.slice fa fn fc)) 40)).alloc (.cells (chA czero (.slice none 0 0) (.slice none 0 0)) 49)).alloc (.cells (chA czero (.slice none 0 0) (.slice none 0 0)) 49)).heap[w.heap.size + 1]? = some (.cells (chA czero (.slice none 0 0) (.slice none 0 0)) 49 (0, 0))) := (Below.heap_alloc _ _ _ (by simp)).trans HR0.out
  have HRW0 := Lib.hid (ChRow.of HP0.out H20.out)
  have hcu := HRW0.out.user
  have hct := HRW0.out.time
  have hcz := HRW0.out.zone
  have hcd := HRW0.out.desc
  have hbu := build_rch c H20.out
  clear hN hFN h hs hsf
  go_enter Tryz.func15, Tryz.ntmps15
  have tok1 : True := trivial
  go_wp2_with (first
    | refine wpList_buildQ rfl 49 #[(0, _), (1, _), (2, _), (3, _), (6, _)] rfl #[(0, .agg (V8 c.n)), (1, .string c.u), (2, .int .i64 c.t), (3, .int .i64 c.z), (6, .string c.d)] (map_five _ _ _ _ _ _ _ _ _ _ _ rfl rfl rfl rfl rfl) (.agg (chA c (.slice none 0 0) (.slice none 0 0))) hbu ?_
    | refine wpList_load_mid rfl 29 _ rfl w.heap.size 0 rfl (U8 c.n) _ HRW0.out.id Tryz.underlying29 rfl (id_info c.n H20.out) ?_
    | refine wpList_store_row rfl 49 _ _ rfl (w.heap.size + 1 + 1) (chA c (.slice none 0 0) (.slice none 0 0)) rfl rfl 49 (chA czero (.slice none 0 0) (.slice none 0 0)) HG0.out (info_rchA c _ _ H20.out) (by rw [chA_size _ _ _ czero_20, chA_size _ _ _ H20.out]) (chA_one c _ _ rfl rfl) ?_)
  clear hcu hct hcz hcd hbu hzr HP0 HR0 HRW0 HB0 HS0
  obtain ⟨p0, hp0⟩ : ∃ b, w.heap.size = b := ⟨_, rfl⟩
  have HPE : Hid (w.heap.size = p0) := hp0
  obtain ⟨w1, hw1⟩ : ∃ W, (((w.alloc (.cells (chA c (.slice xa n xc) (.slice fa fn fc)) 40)).alloc (.cells (chA czero (.slice none 0 0) (.slice none 0 0)) 49)).alloc (.cells (chA czero (.slice none 0 0) (.slice none 0 0)) 49)).setRow (w.heap.size + 1 + 1) (chA c (.slice none 0 0) (.slice none 0 0)) = W := ⟨_, rfl⟩
  have HG2 : Hid (w1.heap[w.heap.size + 1 + 1]? = some (.cells (chA c (.slice none 0 0) (.slice none 0 0)) 49 (0, 0))) := by show _ = _; rw [← hw1]; exact setRow_heap _ _ _ _ _ _ HG0.out
  have HP2 : Hid (w1.heap[w.heap.size]? = some (.cells (chA c (.slice xa n xc) (.slice fa fn fc)) 40 (0, 0))) := by show _ = _; rw [← hw1]; exact (setRow_other _ _ _ _ (by omega)).trans HP1.out
  have HR2 : Hid (w1.heap[w.heap.size + 1]? = some (.cells (chA czero (.slice none 0 0) (.slice none 0 0)) 49 (0, 0))) := by show _ = _; rw [← hw1]; exact (setRow_other _ _ _ _ (by omega)).trans HR1.out
  have HB2 : Hid (Below w.heap.size w w1) := by rw [← hw1]; exact below_setRow HB1.out (by omega) _
  rw [hw1]
  clear hw1 HG0 HP1 HR1 HB1
  rw [hp0] at HG2 HP2 HR2 ⊢
  obtain ⟨rb, hrb⟩ : ∃ b, p0 + 1 = b := ⟨_, rfl⟩
  rw [hrb] at HG2 HR2 ⊢
  obtain ⟨ob, hob⟩ : ∃ b, rb + 1 = b := ⟨_, rfl⟩
  rw [hob] at HG2 ⊢
  have HN1 : Hid (p0 ≠ ob ∧ rb ≠ ob ∧ p0 ≠ rb ∧ w.heap.size ≤ p0 ∧ w.heap.size ≤ rb ∧ w.heap.size ≤ ob) := by show _ ∧ _; omega
  clear hp0 hrb hob
  have HPL : Hid (p0 < w1.heap.size) := (Array.getElem?_eq_some_iff.1 HP2.out).1
  have HOB : Hid (ob < w1.heap.size) := (Array.getElem?_eq_some_iff.1 HG2.out).1
  have HRL : Hid (rb < w1.heap.size) := (Array.getElem?_eq_some_iff.1 HR2.out).1
  have HPO : Hid (p0 ≠ ob) := HN1.out.1
  have HRW := Lib.hid (ChRow.of HP2.out H20.out)
  have HC0 := H20
  have HP23B : Hid (w1.cell? ⟨p0, 23, none⟩ = some (.slice xa n xc)) := HRW.out.exts
  go_wp2_with fail
  go_loopw [4] (fun i wr => ∃ (k : Nat) (oa : Option Addr) (oc : Nat), k ≤ n ∧ i = .int .i64 (k : Int) ∧ OwnG 2 extE 63 wr w1.heap.size (.slice oa k oc) (c.xs.take k) ∧ wr.heap[ob]? = some (.cells (chA c (.slice oa k oc) (.slice none 0 0)) 49 (0, 0)) ∧ FrR ob w1 wr) (fun i _ => n - (intOf i).toNat)
  case atStart => exact ⟨0, none, 0, Nat.zero_le _, rfl, by rw [List.take_zero]; exact OwnG.nil _ _ _, HG2.out, FrR.refl _ _⟩
  case round =>
    obtain ⟨k, oa, oc, hk, rfl, ho, hr, hf⟩ := hrel
    have HO := Lib.hid ho
    have HR := Lib.hid hr
    have HF := Lib.hid hf
    have WK := Lib.hid (next_int k (by have := HNB.out; omega))
    have HP23 := Lib.hid ((HF.out.cell HPL.out HPO.out 23).trans HP23B.out)
    clear ho hr hf HG2
    by_cases hkn : k < n
    · have hki : (k : Int) < (n : Int) := by omega
      have HKN := Lib.hid hkn
      rcases HAX.out with h0 | ⟨b, off, rfl, hbl, hc⟩
      · rw [HN.out] at h0; omega
      obtain ⟨x, hp⟩ : ∃ x, c.xs[k]? = some x := ⟨_, List.getElem?_eq_getElem (by rw [HN.out]; exact hkn)⟩
      have HXR : Hid (∀ W, FrR ob w1 W → W.rangeAt b (off + k * 2) (extE x)) := fun W hW => hW.range (by have := HB2.out.size; omega) (by have := HN1.out; omega) (range_below (hc k x hp) HB2.out hbl)
      have HRX := Lib.hid (HXR.out _ HF.out)
      have HT : Hid (c.xs.take (k + 1) = c.xs.take k ++ [x]) := take_snoc hp
      have HTL : Hid ((c.xs.take k).length = k) := by show _ = _; rw [List.length_take, HN.out]; omega
      clear hp hbl hc hkn hk
      have hp23 := HP23.out
      go_wp2_with fail
      have HFD : Hid (FrR ob w1 wr.drew) := HF.out.drew
      have HF6 : Hid (FrR ob w1 (wr.drew.alloc (.cells (extE x).toArray 63))) := HFD.out.trans (FrR.of ((Below.refl _ _).alloc (Nat.le_refl _) _))
      have HO6 : Hid (OwnG 2 extE 63 (wr.drew.alloc (.cells (extE x).toArray 63)) w1.heap.size (.slice oa k oc) (c.xs.take k)) := HO.out.below ((Below.refl _ _).drew.alloc (Nat.le_refl _) _)
      have HR6 : Hid ((wr.drew.alloc (.cells (extE x).toArray 63)).heap[ob]? = some (.cells (chA c (.slice oa k oc) (.slice none 0 0)) 49 (0, 0))) := (Below.heap_alloc _ _ _ (Array.getElem?_eq_some_iff.1 HR.out).1).trans HR.out
      have HQ1 : Hid ((wr.drew.alloc (.cells (extE x).toArray 63)).cell? ⟨p0, 23, none⟩ = some (.slice (some ⟨b, off, none⟩) n xc)) := (HF6.out.cell HPL.out HPO.out 23).trans HP23B.out
      have HQ2 : Hid ((wr.drew.alloc (.cells (extE x).toArray 63)).rangeAt b (off + k * 2) (extE x)) := HXR.out _ HF6.out
      refine wp_region_noPanic ?_
      refine wp_region_held_drew (S := fun W => W.cell? ⟨p0, 23, none⟩ = some (.slice (some ⟨b, off, none⟩) n xc) ∧ W.rangeAt b (off + k * 2) (extE x)) (by kernel_rfl) ?_ (fun hHeld => ?_)
      · exact ⟨HP23.out, HRX.out⟩
      refine tkV 0 (v := ?_) (hw := ?_) (h := ?_)
      rotate_left
      · intro W hSW
        go_simp
        try with_reducible rfl
      try simp only [Act.put, List.setIfInBounds_toArray, List.set_cons_zero, List.set_cons_succ]
      refine tkV 2 (v := ?_) (hw := ?_) (h := ?_)
      rotate_left
      · intro W hSW
        go_simp
        try with_reducible rfl
      try simp only [Act.put, List.setIfInBounds_toArray, List.set_cons_zero, List.set_cons_succ]
      refine tkY 3 (hy := (yieldsIf_load_sl (by rfl) 37 _ rfl p0 23 rfl (.slice (some ⟨b, off, none⟩) n xc) (fun W hSW => hSW.1) Tryz.underlying37)) (h := ?_)
      try simp only [Act.put, List.setIfInBounds_toArray, List.set_cons_zero, List.set_cons_succ]
      refine tkV 4 (v := ?_) (hw := ?_) (h := ?_)
      rotate_left
      · intro W hSW
        go_simp
        try with_reducible rfl
      try simp only [Act.put, List.setIfInBounds_toArray, List.set_cons_zero, List.set_cons_succ]
      refine tkV 5 (v := ?_) (hw := ?_) (h := ?_)
      rotate_left
      · intro W hSW
        go_simp
        try with_reducible rfl
      try simp only [Act.put, List.setIfInBounds_toArray, List.set_cons_zero, List.set_cons_succ]
      refine tkV 6 (v := ?_) (hw := ?_) (h := ?_)
      rotate_left
      · intro W hSW
        go_simp
        try with_reducible rfl
      try simp only [Act.put, List.setIfInBounds_toArray, List.set_cons_zero, List.set_cons_succ]
      refine tkY 7 (hy := (yieldsIf_load_str (by rfl) 9 _ rfl b (off + k * 2) rfl x.1 (fun W hSW => range_key hSW.2) Tryz.underlying9)) (h := ?_)
      try simp only [Act.put, List.setIfInBounds_toArray, List.set_cons_zero, List.set_cons_succ]
      refine tkV 8 (v := ?_) (hw := ?_) (h := ?_)
      rotate_left
      · intro W hSW
        go_simp
        try with_reducible rfl
      try simp only [Act.put, List.setIfInBounds_toArray, List.set_cons_zero, List.set_cons_succ]
      refine tkY 9 (hy := (yieldsIf_load_sl (by rfl) 37 _ rfl p0 23 rfl (.slice (some ⟨b, off, none⟩) n xc) (fun W hSW => hSW.1) Tryz.underlying37)) (h := ?_)
      try simp only [Act.put, List.setIfInBounds_toArray, List.set_cons_zero, List.set_cons_succ]
      refine tkV 10 (v := ?_) (hw := ?_) (h := ?_)
      rotate_left
      · intro W hSW
        go_simp
        try with_reducible rfl
      try simp only [Act.put, List.setIfInBounds_toArray, List.set_cons_zero, List.set_cons_succ]
      refine tkV 11 (v := ?_) (hw := ?_) (h := ?_)
      rotate_left
      · intro W hSW
        go_simp
        try with_reducible rfl
      try simp only [Act.put, List.setIfInBounds_toArray, List.set_cons_zero, List.set_cons_succ]
      refine tkV 12 (v := ?_) (hw := ?_) (h := ?_)
      rotate_left
      · intro W hSW
        go_simp
        try with_reducible rfl
      try simp only [Act.put, List.setIfInBounds_toArray, List.set_cons_zero, List.set_cons_succ]
      refine tkY 13 (hy := (yieldsIf_load_str (by rfl) 9 _ rfl b (off + k * 2 + 1) rfl x.2 (fun W hSW => range_val hSW.2) Tryz.underlying9)) (h := ?_)
      try simp only [Act.put, List.setIfInBounds_toArray, List.set_cons_zero, List.set_cons_succ]
      refine tkY 14 (hy := (yieldsIf_build (by rfl) _ _ rfl #[(0, .string x.1), (1, .string x.2)] (map_two _ _ _ _ _ rfl rfl) (.agg (extE x).toArray) (fun W => build_rext x.1 x.2 W))) (h := ?_)
      try simp only [Act.put, List.setIfInBounds_toArray, List.set_cons_zero, List.set_cons_succ]
      refine wpAnyH_ready (rs := [1, 15]) (by kernel_rfl) (by simp) ?_
      refine AllReadyH.cons (by simp only [List.getElem?_toArray, List.getElem?_cons_succ, List.getElem?_cons_zero]; rfl) (fun K hK => ?_) (AllReadyH.cons (by simp only [List.getElem?_toArray, List.getElem?_cons_succ, List.getElem?_cons_zero]; rfl) (fun K hK => ?_) AllReadyH.nil)
      · have hcod := (ChRow.of (w := wr.drew) (by exact HR.out) H20.out).exts
        go_simp
        refine hK.out _ _ (⟨HP23.out, HRX.out⟩) (fun hHeld2 => ?_)
        clear hK K hHeld
        have hHeld := hHeld2
        clear hHeld2
        try simp only [Act.put, List.setIfInBounds_toArray, List.set_cons_zero, List.set_cons_succ]
        clear hcod
        refine wpAnyH_ready (rs := [15]) (by kernel_rfl) (by simp) ?_
        refine AllReadyH.cons (by simp only [List.getElem?_toArray, List.getElem?_cons_succ, List.getElem?_cons_zero]; rfl) (fun K hK => ?_) AllReadyH.nil
        refine step_slice (by rfl) _ _ _ rfl #[(0, .agg (extE x).toArray)] (map_one _ _ _ rfl) _ _ (slice_G1 elem_rext (by decide) (by decide) (by decide) extE_len x _ rfl _) ?_
        refine hK.out _ _ (⟨HQ1.out, HQ2.out⟩) (fun hHeld2 => ?_)
        clear hK K hHeld
        have hHeld := hHeld2
        clear hHeld2
        try simp only [Act.put, List.setIfInBounds_toArray, List.set_cons_zero, List.set_cons_succ]
        refine wpAnyH_ready (rs := [16]) (by kernel_rfl) (by simp) ?_
        refine AllReadyH.cons (by simp only [List.getElem?_toArray, List.getElem?_cons_succ, List.getElem?_cons_zero]; rfl) (fun K hK => ?_) AllReadyH.nil
        refine step_append_G elem_rext extE_len (by decide) (by decide) extE_one (by rfl) _ _ rfl w1.heap.size (.slice oa k oc) (c.xs.take k) k HTL.out rfl HO6.out wr.heap.size 0 1 1 [x] rfl (by decide) rfl (one_G wr.drew _ x) (k + 1) (c.xs.take (k + 1)) rfl HT.out.symm (by have := HKN.out; have := HNB.out; omega) HF6.out.size ?_
        rintro g2 gc2 w7 ho7 hg7 hgg hgl
        have HO7 := Lib.hid ho7
        have HF7 : Hid (FrR ob w1 w7) := HF6.out.grown hg7 (fun g hg => (HO6.out.lt hg).1)
        have HR7 : Hid (w7.heap[ob]? = some (.cells (chA c (.slice oa k oc) (.slice none 0 0)) 49 (0, 0))) := (hg7.block ob (Array.getElem?_eq_some_iff.1 HR6.out).1 (fun e => by have h1 := (HO6.out.lt e.symm).1; have h2 := HOB.out; omega)).trans HR6.out
        have HP7 : Hid (w7.cell? ⟨p0, 23, none⟩ = some (.slice (some ⟨b, off, none⟩) n xc)) := (HF7.out.cell HPL.out HPO.out 23).trans HP23B.out
        have HX7 : Hid (w7.rangeAt b (off + k * 2) (extE x)) := HXR.out w7 HF7.out
        clear ho7 hg7 hgg hgl
        refine hK.out _ _ (⟨HP7.out, HX7.out⟩) (fun hHeld2 => ?_)
        clear hK K hHeld
        have hHeld := hHeld2
        clear hHeld2
        try simp only [Act.put, List.setIfInBounds_toArray, List.set_cons_zero, List.set_cons_succ]
        refine tkV 17 (v := ?_) (hw := ?_) (h := ?_)
        rotate_left
        · intro W hSW
          go_simp
          try with_reducible rfl
        try simp only [Act.put, List.setIfInBounds_toArray, List.set_cons_zero, List.set_cons_succ]
        have hco7 := (ChRow.of HR7.out H20.out).exts
        have hfo7 := frozen_of_row w7 ob 23 _ _ HR7.out
        refine wpAnyH_ready (rs := [18]) (by kernel_rfl) (by simp) ?_
        refine AllReadyH.cons (by simp only [List.getElem?_toArray, List.getElem?_cons_succ, List.getElem?_cons_zero]; rfl) (fun K hK => ?_) AllReadyH.nil
        go_simp
        have HR8 : Hid ((w7.setCell ⟨ob, 23, none⟩ (.slice (some ⟨g2, 0, none⟩) (k + 1) gc2)).heap[ob]? = some (.cells (chA c (.slice (some ⟨g2, 0, none⟩) (k + 1) gc2) (.slice none 0 0)) 49 (0, 0))) := by
          show _ = _
          rw [heap_setCell_same w7 ob 23 _ _ _ HR7.out, chA_set c _ _ H20.out 3 _ _ rfl]
          rfl
        have HF8 : Hid (FrR ob w1 (w7.setCell ⟨ob, 23, none⟩ (.slice (some ⟨g2, 0, none⟩) (k + 1) gc2))) := HF7.out.trans (FrR.setCell ob 23 _ _)
        have HO8 : Hid (OwnG 2 extE 63 (w7.setCell ⟨ob, 23, none⟩ (.slice (some ⟨g2, 0, none⟩) (k + 1) gc2)) w1.heap.size (.slice (some ⟨g2, 0, none⟩) (k + 1) gc2) (c.xs.take (k + 1))) := HO7.out.move fun g hg _ => heap_setCell_ne w7 ⟨ob, 23, none⟩ _ g (by have := HOB.out; show g ≠ ob; omega)
        refine hK.out _ _ (⟨(HF8.out.cell HPL.out HPO.out 23).trans HP23B.out, HXR.out _ HF8.out⟩) (fun hHeld2 => ?_)
        clear hK K hHeld
        have hHeld := hHeld2
        clear hHeld2
        try simp only [Act.put, List.setIfInBounds_toArray, List.set_cons_zero, List.set_cons_succ]
        refine wpAnyH_done (by kernel_rfl) ?_ _
        refine NoPanic.normal ?_
        clear hHeld hco7 hfo7
        go_wp2_with fail
        rw [WK.out ((k : Int) + 1) rfl]
        exact ⟨⟨k + 1, some ⟨g2, 0, none⟩, gc2, HKN.out, rfl, HO8.out, HR8.out, HF8.out⟩, by simp [intOf]; have := HKN.out; omega⟩
      · refine step_slice (by rfl) _ _ _ rfl #[(0, .agg (extE x).toArray)] (map_one _ _ _ rfl) _ _ (slice_G1 elem_rext (by decide) (by decide) (by decide) extE_len x _ rfl _) ?_
        refine hK.out _ _ (⟨HQ1.out, HQ2.out⟩) (fun hHeld2 => ?_)
        clear hK K hHeld
        have hHeld := hHeld2
        clear hHeld2
        try simp only [Act.put, List.setIfInBounds_toArray, List.set_cons_zero, List.set_cons_succ]
        refine wpAnyH_ready (rs := [1]) (by kernel_rfl) (by simp) ?_
        refine AllReadyH.cons (by simp only [List.getElem?_toArray, List.getElem?_cons_succ, List.getElem?_cons_zero]; rfl) (fun K hK => ?_) AllReadyH.nil
        have hcod := (ChRow.of (w := wr.alloc (.cells (extE x).toArray 63)) (by exact HR6.out) H20.out).exts
        go_simp
        try rw [show (wr.alloc (.cells (extE x).toArray 63)).drew = wr.drew.alloc (.cells (extE x).toArray 63) from rfl]
        refine hK.out _ _ (⟨HQ1.out, HQ2.out⟩) (fun hHeld2 => ?_)
        clear hK K hHeld
        have hHeld := hHeld2
        clear hHeld2
        try simp only [Act.put, List.setIfInBounds_toArray, List.set_cons_zero, List.set_cons_succ]
        clear hcod
        refine wpAnyH_ready (rs := [16]) (by kernel_rfl) (by simp) ?_
        refine AllReadyH.cons (by simp only [List.getElem?_toArray, List.getElem?_cons_succ, List.getElem?_cons_zero]; rfl) (fun K hK => ?_) AllReadyH.nil
        refine step_append_G elem_rext extE_len (by decide) (by decide) extE_one (by rfl) _ _ rfl w1.heap.size (.slice oa k oc) (c.xs.take k) k HTL.out rfl HO6.out wr.heap.size 0 1 1 [x] rfl (by decide) rfl (one_G wr.drew _ x) (k + 1) (c.xs.take (k + 1)) rfl HT.out.symm (by have := HKN.out; have := HNB.out; omega) HF6.out.size ?_
        rintro g2 gc2 w7 ho7 hg7 hgg hgl
        have HO7 := Lib.hid ho7
        have HF7 : Hid (FrR ob w1 w7) := HF6.out.grown hg7 (fun g hg => (HO6.out.lt hg).1)
        have HR7 : Hid (w7.heap[ob]? = some (.cells (chA c (.slice oa k oc) (.slice none 0 0)) 49 (0, 0))) := (hg7.block ob (Array.getElem?_eq_some_iff.1 HR6.out).1 (fun e => by have h1 := (HO6.out.lt e.symm).1; have h2 := HOB.out; omega)).trans HR6.out
        have HP7 : Hid (w7.cell? ⟨p0, 23, none⟩ = some (.slice (some ⟨b, off, none⟩) n xc)) := (HF7.out.cell HPL.out HPO.out 23).trans HP23B.out
        have HX7 : Hid (w7.rangeAt b (off + k * 2) (extE x)) := HXR.out w7 HF7.out
        clear ho7 hg7 hgg hgl
        refine hK.out _ _ (⟨HP7.out, HX7.out⟩) (fun hHeld2 => ?_)
        clear hK K hHeld
        have hHeld := hHeld2
        clear hHeld2
        try simp only [Act.put, List.setIfInBounds_toArray, List.set_cons_zero, List.set_cons_succ]
        refine tkV 17 (v := ?_) (hw := ?_) (h := ?_)
        rotate_left
        · intro W hSW
          go_simp
          try with_reducible rfl
        try simp only [Act.put, List.setIfInBounds_toArray, List.set_cons_zero, List.set_cons_succ]
        have hco7 := (ChRow.of HR7.out H20.out).exts
        have hfo7 := frozen_of_row w7 ob 23 _ _ HR7.out
        refine wpAnyH_ready (rs := [18]) (by kernel_rfl) (by simp) ?_
        refine AllReadyH.cons (by simp only [List.getElem?_toArray, List.getElem?_cons_succ, List.getElem?_cons_zero]; rfl) (fun K hK => ?_) AllReadyH.nil
        go_simp
        have HR8 : Hid ((w7.setCell ⟨ob, 23, none⟩ (.slice (some ⟨g2, 0, none⟩) (k + 1) gc2)).heap[ob]? = some (.cells (chA c (.slice (some ⟨g2, 0, none⟩) (k + 1) gc2) (.slice none 0 0)) 49 (0, 0))) := by
          show _ = _
          rw [heap_setCell_same w7 ob 23 _ _ _ HR7.out, chA_set c _ _ H20.out 3 _ _ rfl]
          rfl
        have HF8 : Hid (FrR ob w1 (w7.setCell ⟨ob, 23, none⟩ (.slice (some ⟨g2, 0, none⟩) (k + 1) gc2))) := HF7.out.trans (FrR.setCell ob 23 _ _)
        have HO8 : Hid (OwnG 2 extE 63 (w7.setCell ⟨ob, 23, none⟩ (.slice (some ⟨g2, 0, none⟩) (k + 1) gc2)) w1.heap.size (.slice (some ⟨g2, 0, none⟩) (k + 1) gc2) (c.xs.take (k + 1))) := HO7.out.move fun g hg _ => heap_setCell_ne w7 ⟨ob, 23, none⟩ _ g (by have := HOB.out; show g ≠ ob; omega)
        refine hK.out _ _ (⟨(HF8.out.cell HPL.out HPO.out 23).trans HP23B.out, HXR.out _ HF8.out⟩) (fun hHeld2 => ?_)
        clear hK K hHeld
        have hHeld := hHeld2
        clear hHeld2
        try simp only [Act.put, List.setIfInBounds_toArray, List.set_cons_zero, List.set_cons_succ]
        refine wpAnyH_done (by kernel_rfl) ?_ _
        refine NoPanic.normal ?_
        clear hHeld hco7 hfo7
        go_wp2_with fail
        rw [WK.out ((k : Int) + 1) rfl]
        exact ⟨⟨k + 1, some ⟨g2, 0, none⟩, gc2, HKN.out, rfl, HO8.out, HR8.out, HF8.out⟩, by simp [intOf]; have := HKN.out; omega⟩
    · obtain rfl : k = n := by omega
      have HEX : Hid (c.xs.take k = c.xs) := by show _ = _; rw [List.take_of_length_le (by rw [HN.out]; omega)]
      rw [HEX.out] at HO
      have hcf := (ChRow.of HR.out H20.out).files
      have hff := frozen_of_row wr ob 24 _ _ HR.out
      have hpf := (HF.out.cell HPL.out HPO.out 24).trans HRW.out.files
      have hp23 := HP23.out
      have HR3 : Hid (wr.heap[rb]? = some (.cells (chA czero (.slice none 0 0) (.slice none 0 0)) 49 (0, 0))) := (HF.out.block rb HRL.out HN1.out.2.1).trans HR2.out
      have HNXB : Hid (∀ b' off, oa = some ⟨b', off, none⟩ → c.xs.length ≠ 0 → b' ≠ rb) := fun b' off he _ => by have := HO.out.base he; have := HRL.out; omega
      have HNXO : Hid (∀ g, w1.heap.size ≤ g → g ≠ ob) := fun g hg => by have := HOB.out; omega
      clear hk hkn HEX
      by_cases h0 : fn = 0
      · obtain ⟨rfl, rfl⟩ := HFNIL.out h0
        subst h0
        have HR8 : Hid ((wr.setCell ⟨ob, 24, none⟩ (.slice none 0 0)).heap[ob]? = some (.cells (chA c (.slice oa k oc) (.slice none 0 0)) 49 (0, 0))) := by
          show _ = _
          rw [heap_setCell_same wr ob 24 _ _ _ HR.out, chA_set c _ _ H20.out 4 _ _ rfl]
          rfl
        have HR9 : Hid ((wr.setCell ⟨ob, 24, none⟩ (.slice none 0 0)).heap[rb]? = some (.cells (chA czero (.slice none 0 0) (.slice none 0 0)) 49 (0, 0))) := (heap_setCell_ne wr ⟨ob, 24, none⟩ _ rb HN1.out.2.1).trans HR3.out
        have HO8 : Hid (OwnG 2 extE 63 (wr.setCell ⟨ob, 24, none⟩ (.slice none 0 0)) w1.heap.size (.slice oa k oc) c.xs) := HO.out.move fun g hg _ => heap_setCell_ne wr ⟨ob, 24, none⟩ _ g (HNXO.out g hg)
        have HCL : Hid ((chL c (.slice oa k oc) (.slice none 0 0)).toArray = chV c oa oc none 0) := by show _ = _; unfold chV; rw [HN.out, HFN.out]; rfl
        have HBF : Hid (Below w.heap.size w (wr.setCell ⟨ob, 24, none⟩ (.slice none 0 0))) := HB2.out.trans ((HF.out.below HN1.out.2.2.2.2.2 HB2.out.size).setCell (p := ⟨ob, 24, none⟩) HN1.out.2.2.2.2.2 _)
        go_wp2_with (first
          | refine wpList_append_none rfl _ _ 38 rfl w1.heap.size 9 elem_str (.slice none 0 0) [] rfl (OwnG.nil _ _ _) rfl ?_
          | (refine wpList_load_mid rfl 49 _ rfl ob 0 rfl (chL c (.slice oa k oc) (.slice none 0 0)) _ (ChRow.of HR8.out H20.out).cells Tryz.underlying49 rfl (info_rch c _ _ H20.out) ?_
             rw [HCL.out])
          | refine wpList_store_row rfl 49 _ _ rfl rb (chV c oa oc none 0) rfl rfl 49 (chA czero (.slice none 0 0) (.slice none 0 0)) HR9.out (info_rchA c _ _ H20.out) (by unfold chV; rw [chA_size _ _ _ czero_20, chA_size _ _ _ H20.out]) (chA_one c _ _ rfl rfl) ?_)
        refine bodyPost_ret (results_cell_row Tryz.results15 _ _ rb 49 (chV c oa oc none 0) (0, 0) _ rfl (setRow_heap _ _ _ _ _ _ HR9.out) Tryz.underlying49 rfl (info_rchA c _ _ H20.out)) rfl ?_
        refine ⟨⟨oa, oc, none, 0, rfl, rowat_setRow (HO8.out.fs extE_len).1 HNXB.out, .inl HFN.out⟩, below_setRow HBF.out HN1.out.2.2.2.2.1 _⟩
      · rcases HAF.out with h1 | ⟨b, off, rfl, hbl, hc⟩
        · rw [HFN.out] at h1; exact absurd h1 h0
        have HF0 : Hid (0 < fn) := Nat.pos_of_ne_zero h0
        have HFR : Hid (∀ (j : Nat) y, c.fs[j]? = some y → wr.rangeAt b (off + j * 1) (strE y)) := fun j y hj => HF.out.range (by have := HB2.out.size; omega) (by have := HN1.out; omega) (range_below (hc j y hj) HB2.out hbl)
        clear h0 hbl hc
        go_wp2_with (first
          | (refine wpList_append_G elem_str strE_len (by decide) (by decide) strE_one rfl _ _ rfl wr.heap.size (.slice none 0 0) [] 0 rfl rfl (OwnG.nil _ _ _) b off fn fc c.fs HFN.out HF0.out rfl (fun j y hj => HFR.out j y hj) fn c.fs (by omega) rfl (by have := HFB.out; omega) (Nat.le_refl _) ?_
             rintro g4 gc4 w7 ho7 hg7 hgg hgl
             have HB7 : Hid (Below wr.heap.size wr w7) := (Below.refl _ _).grown hg7 (Nat.le_refl _) (fun g hg => by cases hg)
             have HQ7 := Lib.hid ho7
             have HR7 := Lib.hid ((HB7.out.block ob (Array.getElem?_eq_some_iff.1 HR.out).1).trans HR.out)
             have hco7 := (ChRow.of HR7.out H20.out).files
             have hfo7 := frozen_of_row w7 ob 24 _ _ HR7.out
             have HR8 : Hid ((w7.setCell ⟨ob, 24, none⟩ (.slice (some ⟨g4, 0, none⟩) fn gc4)).heap[ob]? = some (.cells (chA c (.slice oa k oc) (.slice (some ⟨g4, 0, none⟩) fn gc4)) 49 (0, 0))) := by
               show _ = _
               rw [heap_setCell_same w7 ob 24 _ _ _ HR7.out, chA_set c _ _ H20.out 4 _ _ rfl]
               rfl
             have HR9 : Hid ((w7.setCell ⟨ob, 24, none⟩ (.slice (some ⟨g4, 0, none⟩) fn gc4)).heap[rb]? = some (.cells (chA czero (.slice none 0 0) (.slice none 0 0)) 49 (0, 0))) := (heap_setCell_ne w7 ⟨ob, 24, none⟩ _ rb HN1.out.2.1).trans ((HB7.out.block rb (Array.getElem?_eq_some_iff.1 HR3.out).1).trans HR3.out)
             have HO8 : Hid (OwnG 2 extE 63 (w7.setCell ⟨ob, 24, none⟩ (.slice (some ⟨g4, 0, none⟩) fn gc4)) w1.heap.size (.slice oa k oc) c.xs) := (HO.out.below HB7.out).move fun g hg _ => heap_setCell_ne w7 ⟨ob, 24, none⟩ _ g (HNXO.out g hg)
             have HQ8 : Hid (OwnG 1 strE 9 (w7.setCell ⟨ob, 24, none⟩ (.slice (some ⟨g4, 0, none⟩) fn gc4)) wr.heap.size (.slice (some ⟨g4, 0, none⟩) fn gc4) c.fs) := HQ7.out.move fun g hg _ => heap_setCell_ne w7 ⟨ob, 24, none⟩ _ g (HNXO.out g (Nat.le_trans HF.out.size hg))
             have HCL : Hid ((chL c (.slice oa k oc) (.slice (some ⟨g4, 0, none⟩) fn gc4)).toArray = chV c oa oc (some ⟨g4, 0, none⟩) gc4) := by show _ = _; unfold chV; rw [HN.out, HFN.out]; rfl
             have HBF : Hid (Below w.heap.size w (w7.setCell ⟨ob, 24, none⟩ (.slice (some ⟨g4, 0, none⟩) fn gc4))) := HB2.out.trans (((HF.out.below HN1.out.2.2.2.2.2 HB2.out.size).trans (HB7.out.mono (Nat.le_trans HB2.out.size HF.out.size))).setCell (p := ⟨ob, 24, none⟩) HN1.out.2.2.2.2.2 _)
             clear ho7 hg7 hgg hgl hcf hff)
          | (refine wpList_load_mid rfl 49 _ rfl ob 0 rfl (chL c (.slice oa k oc) (.slice (some ⟨g4, 0, none⟩) fn gc4)) _ (ChRow.of HR8.out H20.out).cells Tryz.underlying49 rfl (info_rch c _ _ H20.out) ?_
             rw [HCL.out])
          | refine wpList_store_row rfl 49 _ _ rfl rb (chV c oa oc (some ⟨g4, 0, none⟩) gc4) rfl rfl 49 (chA czero (.slice none 0 0) (.slice none 0 0)) HR9.out (info_rchA c _ _ H20.out) (by unfold chV; rw [chA_size _ _ _ czero_20, chA_size _ _ _ H20.out]) (chA_one c _ _ rfl rfl) ?_)
        refine bodyPost_ret (results_cell_row Tryz.results15 _ _ rb 49 (chV c oa oc (some ⟨g4, 0, none⟩) gc4) (0, 0) _ rfl (setRow_heap _ _ _ _ _ _ HR9.out) Tryz.underlying49 rfl (info_rchA c _ _ H20.out)) rfl ?_
        refine ⟨⟨oa, oc, some ⟨g4, 0, none⟩, gc4, rfl, rowat_setRow (HO8.out.fs extE_len).1 HNXB.out, rowat_setRow (HQ8.out.fs strE_len).1 (fun b' off' he _ => by have := HQ8.out.base he; have := HRL.out; have := HF.out.size; omega)⟩, below_setRow HBF.out HN1.out.2.2.2.2.1 _⟩
end Go.Proofs.YtkpiinjhcckhfaaGreatDoor
