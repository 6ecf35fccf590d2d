/- Files by their paths: manifest.byPath. -/
import Derived.Test.YtcbjadecocggjaaDoorMgMap
import Derived.Test.YtcbjadecocggjaaDoorMfMath
namespace Go.Proofs.YtcbjadecocggjaaDoor
open Go.RowKit Go.WideMaps Go.Maps Plain Go.ChangeShapes Go.WideShapes Go.ChangeAt Go.Great
set_option linter.unusedVariables false
set_option linter.unusedSimpArgs false
theorem step_lookup {P : Program} {ops : Array Oper} {o : Oper} {a : Act} {w : World} {K : Act → World → Prop} {Q : Exit → Act → World → Prop} {E : Prop} (hw : Region.wanted o (yielded ops a.tmps) = true) (t : TypeId) (m x : Operand) (c : Bool) (ho : o.op = .lookup t m x c)
    (u1 u2 : Value) (h1 : a.eval m = u1) (h2 : a.eval x = u2) (v : Value) (hr : (Instr.lookup t u1 u2 c).run P w = .ok v w) (h : K (a.put o.dst v) w) : if Region.wanted o (yielded ops a.tmps) = true then Oper.wp P o a w K Q else E := by
  rw [if_pos hw]
  unfold Oper.wp execOp
  simp only [ho, h1, h2, Sem.run_bind, hr, Result.andThen_ok]
  exact h
theorem step_mapUpdate {P : Program} {ops : Array Oper} {o : Oper} {a : Act} {w : World} {K : Act → World → Prop} {Q : Exit → Act → World → Prop} {E : Prop} (hw : Region.wanted o (yielded ops a.tmps) = true) (t : TypeId) (m x y : Operand) (ho : o.op = .mapUpdate t m x y)
    (u1 u2 u3 : Value) (h1 : a.eval m = u1) (h2 : a.eval x = u2) (h3 : a.eval y = u3) (w' : World) (hr : (Instr.mapUpdate t u1 u2 u3).run P w = .ok () w') (h : K (a.put o.dst undef) w') : if Region.wanted o (yielded ops a.tmps) = true then Oper.wp P o a w K Q else E := by
  rw [if_pos hw]
  unfold Oper.wp
  simp [execOp, ho, h1, h2, h3, hr, Result.andThen]
  exact h
set_option maxRecDepth 100000 in
set_option maxHeartbeats 16000000 in
theorem bypath_any (a : Option Addr) (c : Nat) (xs : List MF) (w : World) (h : FsAt w a xs) (hn : xs.length ≤ 1000) (hp : ∀ x ∈ xs, x.p.size ≤ 100000) :
    Calls Tryd.prog 12 #[.slice a xs.length c] w fun e w' => (e = .returned (.map (some w.heap.size)) ∧ GM w' (w.heap.size + 1) w.heap.size xs.length xs) ∧ Below w.heap.size w w' := by
  have H := Lib.hid h
  have HPS := Lib.hid hp
  obtain ⟨n, hnl⟩ : ∃ n, xs.length = n := ⟨_, rfl⟩
  have HN := Lib.hid hnl
  have HNB : Hid (n ≤ 1000) := by show _ ≤ _; omega
  rw [hnl]
  obtain ⟨B, hB⟩ : ∃ B, w.heap.size = B := ⟨_, rfl⟩
  have HBE := Lib.hid hB
  have HM0 : Hid (GM (w.alloc (.map #[] 0)) (B + 1) B 0 []) := by rw [← hB]; exact GM.made w
  have HBL0 : Hid (Below B w (w.alloc (.map #[] 0))) := by rw [← hB]; exact (Below.refl _ _).alloc (Nat.le_refl _) _
  have HSZ0 : Hid (B + 1 ≤ (w.alloc (.map #[] 0)).heap.size) := by rw [← hB]; show _ ≤ _; simp
  have hmm := @run_makeMap Tryd.prog
  have hzf := zero_file
  clear h hn hp hnl
  go_enter Tryd.func12, Tryd.ntmps12
  go_wp2_with fail
  try rw [hB]
  clear hB hmm
  generalize w.alloc (.map #[] 0) = w0 at *
  go_loopw [9] (fun iv wr => ∃ k : Nat, k ≤ n ∧ iv = .int .i64 (k : Int) ∧ GM wr (B + 1) B k (xs.take k) ∧ B + 1 ≤ wr.heap.size ∧ Below B w wr) (fun iv _ => n - (intOf iv).toNat)
  case atStart => exact ⟨0, Nat.zero_le _, rfl, by rw [List.take_zero]; exact HM0.out, HSZ0.out, HBL0.out⟩
  case round =>
    obtain ⟨k, hk, rfl, hgm, hsz, hbl⟩ := hrel
    have HGM := Lib.hid hgm
    have HB0 := Lib.hid hbl
    have HSZ := Lib.hid hsz
    have WK := Lib.hid (next_int k (by have := HNB.out; omega))
    clear hgm hbl hsz HM0 HBL0 HSZ0
    by_cases hkn : k = n
    · subst hkn
      have hki : ¬ (k : Int) < (k : Int) := by omega
      have HG : Hid (GM wr (B + 1) B k xs) := by
        have hall : xs.take k = xs := List.take_of_length_le (by rw [HN.out]; omega)
        have h1 := HGM.out
        rwa [hall] at h1
      clear hk
      go_wp2_with fail
      go_ret
      exact ⟨⟨by rw [HBE.out]; rfl, by rw [HBE.out]; exact HG.out⟩, by rw [HBE.out]; exact HB0.out⟩
    · have hkl : k < n := by omega
      have hki : (k : Int) < (n : Int) := by omega
      have hk0 : (0 : Int) ≤ (k : Int) := Int.natCast_nonneg k
      obtain ⟨b, off, x, rfl, hx, h20, hbl, hr⟩ := H.out.at (k := k) (by rw [HN.out]; exact hkl)
      have HR := Lib.hid (range_below hr HB0.out (by rw [← HBE.out]; exact hbl))
      have H20 := Lib.hid h20
      have HXP : Hid (x.p.size ≤ 100000) := HPS.out x (List.mem_of_getElem? hx)
      have HTK : Hid (xs.take (k + 1) = xs.take k ++ [x]) := by show _ = _; rw [List.take_add_one, hx]; rfl
      have HI := Lib.hid (file_info x h20)
      have HL := Lib.hid (file_infoL x h20)
      have HS : Hid ((fileA noFile).size = (fileA x).size) := by show _ = _; rw [fileA_size _ h20, fileA_size _ zeros20_len]
      have HZN : Hid ((wr.alloc (.cells (fileA noFile) 32)).heap[wr.heap.size]? = some (.cells (fileA noFile) 32 (0, 0))) := heap_alloc_new _ _
      have hb2 : Below wr.heap.size wr ((wr.alloc (.cells (fileA noFile) 32)).setRow wr.heap.size (fileA x)) := below_setRow ((Below.refl _ _).alloc (Nat.le_refl _) _) (Nat.le_refl _) _
      have HBX0 := Lib.hid (setRow_heap _ _ _ (fileA x) _ _ HZN.out)
      have HGM2 : Hid (GM ((wr.alloc (.cells (fileA noFile) 32)).setRow wr.heap.size (fileA x)) (B + 1) B k (xs.take k)) := HGM.out.below hb2
      have HBW2 := Lib.hid hb2
      have HKN : Hid (k + 1 ≤ n ∧ n ≤ 1000) := ⟨hkl, HNB.out⟩
      clear hr hbl h20 hx hb2 hkl hkn hk
      go_wp2_with (first
        | refine wpList_file rfl 32 _ rfl b (off + k * 22) rfl x _ HR.out Tryd.underlying32 rfl HL.out ?_
        | refine wpList_store_row rfl 32 _ _ rfl wr.heap.size (fileA x) rfl rfl 32 (fileA noFile) HZN.out HI.out HS.out (fileA_one _) ?_)
      clear HZN HR
      obtain ⟨bx, hbx⟩ : ∃ bx, wr.heap.size = bx := ⟨_, rfl⟩
      have HBXE : Hid (B < bx) := by have := HSZ.out; show _ < _; omega
      have HBXL0 : Hid (bx < ((wr.alloc (.cells (fileA noFile) 32)).setRow wr.heap.size (fileA x)).heap.size) := by rw [← hbx]; exact (Array.getElem?_eq_some_iff.1 HBX0.out).1
      rw [hbx] at HBX0 HBW2 HGM2 HBXL0 ⊢
      generalize (wr.alloc (.cells (fileA noFile) 32)).setRow bx (fileA x) = wb at *
      have HWD : Hid (Below wr.heap.size wr wb.drew) := by rw [hbx]; exact HBW2.out.drew
      have HWA : Hid (Below wr.heap.size wr (wb.drew.alloc (.cells (fileA x) 32))) := HWD.out.alloc HWD.out.size _
      have HBX : Hid (wb.drew.heap[bx]? = some (.cells (fileA x) 32 (0, 0))) := HBX0.out
      have HBXL : Hid (bx < wb.drew.heap.size) := HBXL0.out
      have HBXA : Hid ((wb.drew.alloc (.cells (fileA x) 32)).heap[bx]? = some (.cells (fileA x) 32 (0, 0))) := (((Below.refl wb.drew.heap.size wb.drew).alloc (Nat.le_refl _) _).block bx HBXL0.out).trans HBX0.out
      have HBXLA : Hid (bx < (wb.drew.alloc (.cells (fileA x) 32)).heap.size) := (Array.getElem?_eq_some_iff.1 HBXA.out).1
      obtain ⟨v, hlk, hvo, hback⟩ := HGM.out.look x.p HXP.out (by have := HKN.out; omega)
      obtain ⟨m, hm⟩ : ∃ m, (ofL (pL x) (xs.take k)).length = m := ⟨_, rfl⟩
      have HMQ := Lib.hid hm
      have HML : Hid (m ≤ k) := by
        have h1 := ofL_len (pL x) (xs.take k)
        rw [List.length_take] at h1
        show _ ≤ _; omega
      have HLK := Lib.hid hlk
      have HVO : Hid (OwnF 32 wr (B + 1) v (ofL (pL x) (xs.take k))) := hvo
      have HBACK := Lib.hid hback
      have HVA : Hid (OwnF 32 (wb.drew.alloc (.cells (fileA x) 32)) (B + 1) v (ofL (pL x) (xs.take k))) := hvo.below HWA.out
      have HRX : Hid ((wb.drew.alloc (.cells (fileA x) 32)).rangeAt wb.drew.heap.size 0 (fileL x)) := row_file (heap_alloc_new wb.drew _)
      have HBDA : Hid (B + 1 ≤ (wb.drew.alloc (.cells (fileA x) 32)).heap.size) := Nat.le_trans HSZ.out HWA.out.size
      have HVX : Hid (some bx ≠ v.ownBlock) := fun e => by
        have := (hvo.lt e.symm).2
        omega
      have HBB : Hid (some bx ≠ some B) := fun e => by
        have := HBXE.out
        cases e
        omega
      clear hlk hvo hback hm hbx HBX0 HBXL0 HBW2 HGM2
      go_wp2_with fail
      refine wp_region_noPanic ?_
      refine wp_region_held_drew (S := fun W => W.heap[bx]? = some (.cells (fileA x) 32 (0, 0))) (by kernel_rfl) ?_ (fun hHeld => ?_)
      · exact HBX.out
      refine wpAnyH_take (i := 0) (v := ?_) (by simp only [List.getElem?_toArray, List.getElem?_cons_zero]; rfl) (by kernel_rfl) (by kernel_rfl) (by kernel_rfl) (fun _ _ _ h => h) (Or.inl ⟨by rfl, ?_⟩) (by assumption) ?_
      rotate_left
      · intro W hSW
        go_simp
        try with_reducible rfl
      try simp only [Act.put, List.setIfInBounds_toArray, List.set_cons_zero, List.set_cons_succ]
      refine wpAnyH_take (i := 1) (v := ?_) (by simp only [List.getElem?_toArray, List.getElem?_cons_succ, List.getElem?_cons_zero]; rfl) (by kernel_rfl) (by kernel_rfl) (by kernel_rfl) (fun _ _ _ h => h) (Or.inl ⟨by rfl, ?_⟩) (by assumption) ?_
      rotate_left
      · intro W hSW
        go_simp
        try with_reducible rfl
      try simp only [Act.put, List.setIfInBounds_toArray, List.set_cons_zero, List.set_cons_succ]
      refine wpAnyH_take (i := 2) (by simp only [List.getElem?_toArray, List.getElem?_cons_succ, List.getElem?_cons_zero]; rfl) (by kernel_rfl) (by kernel_rfl) (by kernel_rfl) (fun _ _ _ h => h) (yieldsIf_load_str (by rfl) 9 _ rfl bx 0 rfl x.p (fun W hSW => range_path (row_file hSW)) Tryd.underlying9) (by assumption) ?_
      try simp only [Act.put, List.setIfInBounds_toArray, List.set_cons_zero, List.set_cons_succ]
      refine wpAnyH_take (i := 3) (v := ?_) (by simp only [List.getElem?_toArray, List.getElem?_cons_succ, List.getElem?_cons_zero]; rfl) (by kernel_rfl) (by kernel_rfl) (by kernel_rfl) (fun _ _ _ h => h) (Or.inl ⟨by rfl, ?_⟩) (by assumption) ?_
      rotate_left
      · intro W hSW
        go_simp
        try with_reducible rfl
      try simp only [Act.put, List.setIfInBounds_toArray, List.set_cons_zero, List.set_cons_succ]
      refine wpAnyH_take (i := 4) (v := ?_) (by simp only [List.getElem?_toArray, List.getElem?_cons_succ, List.getElem?_cons_zero]; rfl) (by kernel_rfl) (by kernel_rfl) (by kernel_rfl) (fun _ _ _ h => h) (Or.inl ⟨by rfl, ?_⟩) (by assumption) ?_
      rotate_left
      · intro W hSW
        go_simp
        try with_reducible rfl
      try simp only [Act.put, List.setIfInBounds_toArray, List.set_cons_zero, List.set_cons_succ]
      refine wpAnyH_take (i := 5) (by simp only [List.getElem?_toArray, List.getElem?_cons_succ, List.getElem?_cons_zero]; rfl) (by kernel_rfl) (by kernel_rfl) (by kernel_rfl) (fun _ _ _ h => h) (yieldsIf_load_str (by rfl) 9 _ rfl bx 0 rfl x.p (fun W hSW => range_path (row_file hSW)) Tryd.underlying9) (by assumption) ?_
      try simp only [Act.put, List.setIfInBounds_toArray, List.set_cons_zero, List.set_cons_succ]
      refine wpAnyH_take (i := 7) (by simp only [List.getElem?_toArray, List.getElem?_cons_succ, List.getElem?_cons_zero]; rfl) (by kernel_rfl) (by kernel_rfl) (by kernel_rfl) (fun _ _ _ h => h) (yieldsIf_load_mid (by rfl) 32 _ rfl bx 0 rfl (fileL x) _ (fun W hSW => row_file hSW) Tryd.underlying32 rfl HL.out) (by assumption) ?_
      try simp only [Act.put, List.setIfInBounds_toArray, List.set_cons_zero, List.set_cons_succ]
      refine wpAnyH_ready (rs := [6, 8]) (by kernel_rfl) (by simp) ?_
      refine AllReadyH.cons (by simp only [List.getElem?_toArray, List.getElem?_cons_succ, List.getElem?_cons_zero]; rfl) (fun K hK => ?_) (AllReadyH.cons (by simp only [List.getElem?_toArray, List.getElem?_cons_succ, List.getElem?_cons_zero]; rfl) (fun K hK => ?_) AllReadyH.nil)
      · refine step_lookup (by rfl) _ _ _ _ rfl _ _ rfl rfl v (HLK.out _ HWD.out) ?_
        refine hK.out _ _ (HBX.out) (fun hHeld2 => ?_)
        clear hK K hHeld
        have hHeld := hHeld2
        clear hHeld2
        try simp only [Act.put, List.setIfInBounds_toArray, List.set_cons_zero, List.set_cons_succ]
        refine wpAnyH_ready (rs := [8]) (by kernel_rfl) (by simp) ?_
        refine AllReadyH.cons (by simp only [List.getElem?_toArray, List.getElem?_cons_succ, List.getElem?_cons_zero]; rfl) (fun K hK => ?_) AllReadyH.nil
        refine step_slice (by rfl) _ _ _ rfl #[(0, .agg (fileA x))] (map_one _ _ _ rfl) _ _ (slice_file x H20.out _) ?_
        refine hK.out _ _ (HBXA.out) (fun hHeld2 => ?_)
        clear hK K hHeld
        have hHeld := hHeld2
        clear hHeld2
        try simp only [Act.put, List.setIfInBounds_toArray, List.set_cons_zero, List.set_cons_succ]
        refine wpAnyH_ready (rs := [9]) (by kernel_rfl) (by simp) ?_
        refine AllReadyH.cons (by simp only [List.getElem?_toArray, List.getElem?_cons_succ, List.getElem?_cons_zero]; rfl) (fun K hK => ?_) AllReadyH.nil
        refine step_append_file rfl _ _ rfl (B + 1) v (ofL (pL x) (xs.take k)) m HMQ.out rfl HVA.out wb.drew.heap.size x H20.out rfl HRX.out (by have := HKN.out; have := HML.out; omega) HBDA.out ?_
        intro gv cv w5 hv5 hgr hloc hlt
        have HV5 := Lib.hid hv5
        have HG5 : Hid (wr.grownBy w5 v.ownBlock) := World.grownBy.trans (a := wr) ⟨HWA.out.os, HWA.out.tape, HWA.out.output, HWA.out.size, fun k hk _ => HWA.out.block k hk⟩ hgr
        have HLC : Hid ((Value.slice (some ⟨gv, 0, none⟩) (m + 1) cv).ownBlock = v.ownBlock ∨ ∃ g, (Value.slice (some ⟨gv, 0, none⟩) (m + 1) cv).ownBlock = some g ∧ wr.heap.size ≤ g) := hloc.imp (fun h => h.symm) (fun h => ⟨gv, rfl, by rw [h]; exact HWA.out.size⟩)
        have HBX5 : Hid (w5.heap[bx]? = some (.cells (fileA x) 32 (0, 0))) := (hgr.block bx HBXLA.out HVX.out).trans HBXA.out
        have HBXL5 : Hid (bx < w5.heap.size) := (Array.getElem?_eq_some_iff.1 HBX5.out).1
        clear hv5 hgr hloc hlt
        refine hK.out _ _ (HBX5.out) (fun hHeld2 => ?_)
        clear hK K hHeld
        have hHeld := hHeld2
        clear hHeld2
        try simp only [Act.put, List.setIfInBounds_toArray, List.set_cons_zero, List.set_cons_succ]
        refine wpAnyH_ready (rs := [10]) (by kernel_rfl) (by simp) ?_
        refine AllReadyH.cons (by simp only [List.getElem?_toArray, List.getElem?_cons_succ, List.getElem?_cons_zero]; rfl) (fun K hK => ?_) AllReadyH.nil
        obtain ⟨w6, hup, hgm, hg6⟩ := HBACK.out w5 (.slice (some ⟨gv, 0, none⟩) (m + 1) cv) x rfl HG5.out HV5.out HLC.out
        have HGM6 := Lib.hid hgm
        have HB6 : Hid (Below B wr w6) := ((Below.refl _ _).grown HG5.out (Nat.le_of_succ_le HSZ.out) (fun g hg => Nat.le_trans (Nat.le_succ B) (HVO.out.lt hg).1)).grown hg6 (Nat.le_trans (Nat.le_of_succ_le HSZ.out) HG5.out.size) (fun g hg => by (cases hg; exact Nat.le_refl _))
        have HSZ6 : Hid (wr.heap.size ≤ w6.heap.size) := Nat.le_trans HG5.out.size hg6.size
        have HBX6 : Hid (w6.heap[bx]? = some (.cells (fileA x) 32 (0, 0))) := (hg6.block bx HBXL5.out HBB.out).trans HBX5.out
        refine step_mapUpdate (by rfl) _ _ _ _ rfl _ _ _ rfl rfl rfl w6 hup ?_
        clear hup hgm hg6
        refine hK.out _ _ (HBX6.out) (fun hHeld2 => ?_)
        clear hK K hHeld
        have hHeld := hHeld2
        clear hHeld2
        try simp only [Act.put, List.setIfInBounds_toArray, List.set_cons_zero, List.set_cons_succ]
        refine wpAnyH_done (by kernel_rfl) ?_ _
        refine NoPanic.normal ?_
        clear hHeld
        go_wp2_with fail
        exact ⟨⟨k + 1, HKN.out.1, by first | rw [WK.out _ rfl] | rfl, by rw [HTK.out]; exact HGM6.out, Nat.le_trans HSZ.out HSZ6.out, HB0.out.trans HB6.out⟩, by have := HKN.out; (first | rw [WK.out _ rfl] | skip); simp [intOf]; omega⟩
      · refine step_slice (by rfl) _ _ _ rfl #[(0, .agg (fileA x))] (map_one _ _ _ rfl) _ _ (slice_file x H20.out _) ?_
        refine hK.out _ _ (HBXA.out) (fun hHeld2 => ?_)
        clear hK K hHeld
        have hHeld := hHeld2
        clear hHeld2
        try simp only [Act.put, List.setIfInBounds_toArray, List.set_cons_zero, List.set_cons_succ]
        refine wpAnyH_ready (rs := [6]) (by kernel_rfl) (by simp) ?_
        refine AllReadyH.cons (by simp only [List.getElem?_toArray, List.getElem?_cons_succ, List.getElem?_cons_zero]; rfl) (fun K hK => ?_) AllReadyH.nil
        refine step_lookup (by rfl) _ _ _ _ rfl _ _ rfl rfl v (HLK.out _ HWA.out) ?_
        refine hK.out _ _ (HBXA.out) (fun hHeld2 => ?_)
        clear hK K hHeld
        have hHeld := hHeld2
        clear hHeld2
        try simp only [Act.put, List.setIfInBounds_toArray, List.set_cons_zero, List.set_cons_succ]
        refine wpAnyH_ready (rs := [9]) (by kernel_rfl) (by simp) ?_
        refine AllReadyH.cons (by simp only [List.getElem?_toArray, List.getElem?_cons_succ, List.getElem?_cons_zero]; rfl) (fun K hK => ?_) AllReadyH.nil
        refine step_append_file rfl _ _ rfl (B + 1) v (ofL (pL x) (xs.take k)) m HMQ.out rfl HVA.out wb.drew.heap.size x H20.out rfl HRX.out (by have := HKN.out; have := HML.out; omega) HBDA.out ?_
        intro gv cv w5 hv5 hgr hloc hlt
        have HV5 := Lib.hid hv5
        have HG5 : Hid (wr.grownBy w5 v.ownBlock) := World.grownBy.trans (a := wr) ⟨HWA.out.os, HWA.out.tape, HWA.out.output, HWA.out.size, fun k hk _ => HWA.out.block k hk⟩ hgr
        have HLC : Hid ((Value.slice (some ⟨gv, 0, none⟩) (m + 1) cv).ownBlock = v.ownBlock ∨ ∃ g, (Value.slice (some ⟨gv, 0, none⟩) (m + 1) cv).ownBlock = some g ∧ wr.heap.size ≤ g) := hloc.imp (fun h => h.symm) (fun h => ⟨gv, rfl, by rw [h]; exact HWA.out.size⟩)
        have HBX5 : Hid (w5.heap[bx]? = some (.cells (fileA x) 32 (0, 0))) := (hgr.block bx HBXLA.out HVX.out).trans HBXA.out
        have HBXL5 : Hid (bx < w5.heap.size) := (Array.getElem?_eq_some_iff.1 HBX5.out).1
        clear hv5 hgr hloc hlt
        refine hK.out _ _ (HBX5.out) (fun hHeld2 => ?_)
        clear hK K hHeld
        have hHeld := hHeld2
        clear hHeld2
        try simp only [Act.put, List.setIfInBounds_toArray, List.set_cons_zero, List.set_cons_succ]
        refine wpAnyH_ready (rs := [10]) (by kernel_rfl) (by simp) ?_
        refine AllReadyH.cons (by simp only [List.getElem?_toArray, List.getElem?_cons_succ, List.getElem?_cons_zero]; rfl) (fun K hK => ?_) AllReadyH.nil
        obtain ⟨w6, hup, hgm, hg6⟩ := HBACK.out w5 (.slice (some ⟨gv, 0, none⟩) (m + 1) cv) x rfl HG5.out HV5.out HLC.out
        have HGM6 := Lib.hid hgm
        have HB6 : Hid (Below B wr w6) := ((Below.refl _ _).grown HG5.out (Nat.le_of_succ_le HSZ.out) (fun g hg => Nat.le_trans (Nat.le_succ B) (HVO.out.lt hg).1)).grown hg6 (Nat.le_trans (Nat.le_of_succ_le HSZ.out) HG5.out.size) (fun g hg => by (cases hg; exact Nat.le_refl _))
        have HSZ6 : Hid (wr.heap.size ≤ w6.heap.size) := Nat.le_trans HG5.out.size hg6.size
        have HBX6 : Hid (w6.heap[bx]? = some (.cells (fileA x) 32 (0, 0))) := (hg6.block bx HBXL5.out HBB.out).trans HBX5.out
        refine step_mapUpdate (by rfl) _ _ _ _ rfl _ _ _ rfl rfl rfl w6 hup ?_
        clear hup hgm hg6
        refine hK.out _ _ (HBX6.out) (fun hHeld2 => ?_)
        clear hK K hHeld
        have hHeld := hHeld2
        clear hHeld2
        try simp only [Act.put, List.setIfInBounds_toArray, List.set_cons_zero, List.set_cons_succ]
        refine wpAnyH_done (by kernel_rfl) ?_ _
        refine NoPanic.normal ?_
        clear hHeld
        go_wp2_with fail
        exact ⟨⟨k + 1, HKN.out.1, by first | rw [WK.out _ rfl] | rfl, by rw [HTK.out]; exact HGM6.out, Nat.le_trans HSZ.out HSZ6.out, HB0.out.trans HB6.out⟩, by have := HKN.out; (first | rw [WK.out _ rfl] | skip); simp [intOf]; omega⟩
end Go.Proofs.YtcbjadecocggjaaDoor
