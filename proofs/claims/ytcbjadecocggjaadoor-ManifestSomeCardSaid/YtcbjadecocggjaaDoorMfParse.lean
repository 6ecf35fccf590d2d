/- manifest.Parse: the walk. -/
import Derived.Test.YtcbjadecocggjaaDoorMfCut
namespace Go.Proofs.YtcbjadecocggjaaDoor
open Go.RowKit Plain
set_option linter.unusedVariables false
set_option linter.unusedSimpArgs false
theorem neq_empty (l : List UInt8) (W : World) : (binOp .neq 9 (.string (txt l)) (.string ⟨#[]⟩)).run Tryd.prog W = .ok (.bool (!l.isEmpty)) W := by
  rw [binOp_string_neq]
  have : ((txt l).toList == (⟨#[]⟩ : ByteArray).toList) = l.isEmpty := by
    rw [Lib.toList_data, Lib.toList_data, txt_list]
    cases l <;> rfl
  rw [this]
  rfl
theorem front_txt (l : List UInt8) (n : Nat) (h : n ≤ l.length) (x : Int) (hx : x = (n : Int)) (w : World) : (Instr.slice 9 (.string (txt l)) none (some (.int .i64 x)) none).run Tryd.prog w = .ok (.string (txt (l.take n))) w := by
  rw [slice_front (txt l) n (by rw [txt_size]; exact h) x hx w]
  congr 2
  exact bytes_ext (by rw [extract_list, txt_list, txt_list])
theorem back_txt (l : List UInt8) (n : Nat) (h : n ≤ l.length) (x : Int) (hx : x = (n : Int)) (w : World) : (Instr.slice 9 (.string (txt l)) (some (.int .i64 x)) none none).run Tryd.prog w = .ok (.string (txt (l.drop n))) w := by
  subst hx
  have ht := Tryd.underlying9
  have e : (txt l).extract n (txt l).size = txt (l.drop n) := bytes_ext (by
    rw [txt_list, ByteArray.data_extract, Array.toList_extract, txt_list]
    simp [txt_size]
    rw [List.take_of_length_le (by rw [List.length_drop]; omega)])
  have h2 : n ≤ (txt l).size := by rw [txt_size]; exact h
  simp [Instr.slice, run_underlying ht, Instr.sliceBounds, run_sliceBound, h2, e]
theorem row_grown {e t : TypeId} {w w' : World} {base g0 : Nat} {v : Value} {xs : List MF} {cs : Array Value} {fr : Nat × Nat} (hr : w.heap[g0]? = some (.cells cs t fr)) (h : OwnF e w base v xs) (hne : e ≠ t) (hg : w.grownBy w' v.ownBlock) : w'.heap[g0]? = some (.cells cs t fr) := by
  refine (hg.block g0 (Array.getElem?_eq_some_iff.1 hr).1 (fun e1 => ?_)).trans hr
  obtain ⟨⟨h1, ⟨h2, -⟩ | ⟨g, cap, cur, h3, h4, h5, h6⟩⟩, h20⟩ := h
  · rw [h2] at e1; cases e1
  · rw [h3] at e1
    injection e1 with e1
    subst e1
    rw [hr] at h5
    injection h5 with h5
    injection h5 with _ h5 _
    exact hne h5.symm
def lenAt (w : World) (rb : Nat) : Nat := match w.cell? ⟨rb, 0, none⟩ with | some (.string s) => s.size | _ => 0
theorem lenAt_eq {w : World} {rb : Nat} {s : ByteArray} (h : Cell w rb s) : lenAt w rb = s.size := by unfold lenAt; rw [h.cell]
/-- What Parse answers. -/
def MfParse (base : Nat) (e : Ending) (w' : World) : Option (List MF) → Prop
  | none => e = .returned (.tuple #[.slice none 0 0, .int .i64 4])
  | some xs => ∃ a c, e = .returned (.tuple #[.slice a xs.length c, .int .i64 0]) ∧ OwnF 32 w' base (.slice a xs.length c) xs
theorem MfParse.good {base m : Nat} {w' : World} {xs : List MF} {a : Option Addr} {c : Nat} (hm : xs.length = m) (ho : OwnF 32 w' base (.slice a m c) xs) : MfParse base (.returned (.tuple #[.slice a m c, .int .i64 0])) w' (some xs) := by
  subst hm
  exact ⟨a, c, rfl, ho⟩
set_option maxRecDepth 100000 in
set_option maxHeartbeats 32000000 in
theorem mfparse_any (a : Option Addr) (n c : Nat) (xs : List Int) (w : World) (hx : Bytes w a n xs) (hE : Env w) (hn : n ≤ 4200000) :
    Calls Tryd.prog 19 #[.slice a n c] w fun e w' => MfParse w.heap.size e w' (readL (strOfNums xs).data.toList) ∧ Below w.heap.size w w' := by
  have htx := text_run w a n c xs hx
  have HE := Lib.hid hE
  have hl0 : (strOfNums xs).data.toList.length ≤ 4200000 := by rw [strOfNums_data, List.length_map]; have := hx.1; omega
  rw [← txt_of (strOfNums xs)] at htx
  obtain ⟨L0, hL0⟩ : ∃ L, (strOfNums xs).data.toList = L := ⟨_, rfl⟩
  rw [hL0] at htx hl0 ⊢
  have HL0 := Lib.hid hl0
  have hzi := fzero_id
  have HC0 : Hid (Cell (w.alloc (.cells #[.string (txt L0)] 9)) w.heap.size (txt L0)) := heap_alloc_new _ _
  have HB0 : Hid (Below w.heap.size w (w.alloc (.cells #[.string (txt L0)] 9))) := (Below.refl _ _).alloc (Nat.le_refl _) _
  clear hx hE hn hl0 hL0
  go_enter Tryd.func19, Tryd.ntmps19
  go_wp2_with fail
  clear htx
  generalize w.alloc (.cells #[.string (txt L0)] 9) = w0 at *
  go_loopw [6] (fun l wr => ∃ (acc : List MF) (L : List UInt8), OwnF 32 wr w.heap.size l acc ∧ Cell wr w.heap.size (txt L) ∧ filesL L0 = (filesL L).map (acc ++ ·) ∧ 42 * acc.length + L.length ≤ L0.length ∧ Below w.heap.size w wr) (fun _ wr => lenAt wr w.heap.size)
  case atStart => exact ⟨[], L0, OwnF.nil _ _ _, HC0.out, by (cases filesL L0 with | none => rfl | some x => rfl), by show 42 * 0 + _ ≤ _; omega, HB0.out⟩
  case round =>
    obtain ⟨acc, L, hown, hc, hpr, hsz, hb⟩ := hrel
    obtain ⟨la, lc, rfl⟩ := hown.shape
    have HO := Lib.hid hown
    have HC := Lib.hid hc
    have HPR := Lib.hid hpr
    have HSZ := Lib.hid hsz
    have HBW := Lib.hid hb
    have hcell := hc.cell
    have HLW := Lib.hid (lenAt_eq hc)
    clear hown hc hpr hsz hb HC0 HB0
    obtain ⟨m, hm⟩ : ∃ m, acc.length = m := ⟨_, rfl⟩
    rw [hm] at HO HSZ ⊢
    have HM := Lib.hid hm
    have HMB : Hid (m ≤ 100000) := by show _ ≤ _; have h1 := HSZ.out; have h2 := HL0.out; omega
    have hne := neq_empty L
    by_cases hL : L = []
    · subst hL
      have HPR2 : Hid (filesL L0 = some acc) := by
        show _ = _
        rw [HPR.out, files_nil, Option.map_some, List.append_nil]
      have HRT := fright_any la lc acc wr (HO.out.fs.1) (by rw [hm]; have := HMB.out; omega) (HE.out.below HBW.out)
      rw [hm] at HRT
      have HRT := Lib.hid HRT
      clear hm
      go_wp2_with (first
        | refine wpList_eql (by rfl) .neq 9 _ _ _ rfl (.string (txt [])) (.string ⟨#[]⟩) rfl rfl (.bool false) (guard_ne _ _ _ _) hne ?_)
      refine HRT.out.mono ?_
      rintro e w3 ⟨rfl, hb⟩
      have HB3 := Lib.hid (HBW.out.trans (hb.mono HBW.out.size))
      have HO3 := Lib.hid (HO.out.below hb)
      clear hb hne HRT HO hcell
      cases hrp : rightM acc
      · have HP : Hid (MfParse w.heap.size (.returned (.tuple #[.slice none 0 0, .int .i64 4])) w3 (readL L0)) := by
          show MfParse _ _ _ _
          unfold readL
          rw [HPR2.out]
          simp only [hrp]
          exact rfl
        clear hrp
        go_wp2_with fail
        (try simp only [Exit.inBlock, Exit.then])
        go_ret2
        exact ⟨HP.out, HB3.out⟩
      · have HP : Hid (MfParse w.heap.size (.returned (.tuple #[.slice la m lc, .int .i64 0])) w3 (readL L0)) := by
          show MfParse _ _ _ _
          unfold readL
          rw [HPR2.out]
          simp only [hrp]
          exact MfParse.good HM.out HO3.out
        clear hrp
        go_wp2_with fail
        (try simp only [Exit.inBlock, Exit.then])
        go_ret2
        exact ⟨HP.out, HB3.out⟩
    · have hemp : (!L.isEmpty) = true := by cases L with | nil => exact absurd rfl hL | cons x l => rfl
      rw [hemp] at hne
      have HLN := Lib.hid hL
      have HLL : Hid (L.length ≤ 4200000) := by show _ ≤ _; have := HSZ.out; have := HL0.out; omega
      have HOK : Hid (((Lib.cut L [0]).2.2 && (Lib.cut (Lib.cut L [0]).2.1 [10]).2.2 && decide (40 ≤ (Lib.cut (Lib.cut L [0]).2.1 [10]).1.length) && isHex (txt ((Lib.cut (Lib.cut L [0]).2.1 [10]).1.take 40))) = fileOk L) := rfl
      have HIS : Hid (fileIs L = ⟨txt (Lib.cut L [0]).1, parsed (txt ((Lib.cut (Lib.cut L [0]).2.1 [10]).1.take 40)), txt ((Lib.cut (Lib.cut L [0]).2.1 [10]).1.drop 40)⟩) := rfl
      have HRS : Hid (restOf L = (Lib.cut (Lib.cut L [0]).2.1 [10]).2.1) := rfl
      have HRL : Hid ((Lib.cut L [0]).2.1.length ≤ 4200000) := Nat.le_trans (cut_len L 0).2 HLL.out
      have HLNL : Hid ((Lib.cut (Lib.cut L [0]).2.1 [10]).1.length ≤ 4200000) := Nat.le_trans (cut_len _ 10).1 HRL.out
      have HBADF : Hid (∀ W, fileOk L = false → MfParse w.heap.size (.returned (.tuple #[.slice none 0 0, .int .i64 4])) W (readL L0)) := fun W h => by
        have : filesL L0 = none := by rw [HPR.out, files_bad HLN.out h]; rfl
        unfold readL
        rw [this]
        exact rfl
      clear hemp hL hm
      go_wp2_with (first
        | refine wpList_eql (by rfl) .neq 9 _ _ _ rfl (.string (txt L)) (.string ⟨#[]⟩) rfl rfl (.bool true) (guard_ne _ _ _ _) hne ?_)
      clear hne hcell
      refine (cutc_any L 0 w.heap.size wr HC.out (HE.out.below HBW.out) (by have := HLL.out; omega)).mono ?_
      rintro e w1 ⟨rfl, hc1, hg1⟩
      have HC1 := Lib.hid hc1
      have HB1 : Hid (Below w.heap.size w w1) := HBW.out.grown hg1 HBW.out.size (fun g hg => by injection hg with hg; omega)
      have HO1 := Lib.hid (HO.out.other HC.out (by decide) hg1)
      clear hc1 hg1 HO HC HBW
      generalize (Lib.cut L [0]).1 = A at *
      generalize (Lib.cut L [0]).2.1 = R at *
      generalize (Lib.cut L [0]).2.2 = k1 at *
      go_wp2_with fail
      refine (cutc_any R 10 w.heap.size w1 HC1.out (HE.out.below HB1.out) (by have := HRL.out; omega)).mono ?_
      rintro e w2 ⟨rfl, hc2, hg2⟩
      have HC2 := Lib.hid hc2
      have HB2 : Hid (Below w.heap.size w w2) := HB1.out.grown hg2 HB1.out.size (fun g hg => by injection hg with hg; omega)
      have HO2 := Lib.hid (HO1.out.other HC1.out (by decide) hg2)
      clear hc2 hg2 HO1 HC1 HB1
      generalize (Lib.cut R [10]).1 = LN at *
      generalize (Lib.cut R [10]).2.1 = RS at *
      generalize (Lib.cut R [10]).2.2 = k2 at *
      have HBADF2 := Lib.hid (HBADF.out w2)
      cases k1
      · have HBAD := Lib.hid (HBADF2.out (by rw [← HOK.out]; rfl))
        clear HBADF HBADF2 HOK
        go_wp2_with fail
        (try simp only [Exit.inBlock, Exit.then])
        go_ret2
        exact ⟨HBAD.out, HB2.out⟩
      cases k2
      · have HBAD := Lib.hid (HBADF2.out (by rw [← HOK.out]; rfl))
        clear HBADF HBADF2 HOK
        go_wp2_with fail
        (try simp only [Exit.inBlock, Exit.then])
        go_ret2
        exact ⟨HBAD.out, HB2.out⟩
      have hszn : (txt LN).size = LN.length := txt_size LN
      by_cases h40 : LN.length < 40
      · have h40i : ((txt LN).size : Int) < 40 := by omega
        have hdf : decide (40 ≤ LN.length) = false := decide_eq_false (by omega)
        have HBAD := Lib.hid (HBADF2.out (by rw [← HOK.out]; rw [hdf]; rfl))
        clear HBADF HBADF2 HOK
        go_wp2_with fail
        (try simp only [Exit.inBlock, Exit.then])
        go_ret2
        exact ⟨HBAD.out, HB2.out⟩
      have h40i : ¬ ((txt LN).size : Int) < 40 := by omega
      have hdt : decide (40 ≤ LN.length) = true := decide_eq_true (by omega)
      rw [hdt] at HOK
      have hs1 := fun W => front_txt LN 40 (by omega) 40 rfl W
      have HS2 := Lib.hid (fun W => back_txt LN 40 (by omega) 40 rfl W)
      clear hdt h40 hszn
      go_wp2_with fail
      clear hs1 h40i
      refine (parse_any (txt (LN.take 40)) w2 (by rw [txt_size, List.length_take]; omega)).mono ?_
      rintro e w3 ⟨rfl, hb⟩
      have HB3 := Lib.hid (HB2.out.trans (hb.mono HB2.out.size))
      have HO3 := Lib.hid (HO2.out.below hb)
      have HC3 := Lib.hid (HC2.out.below hb)
      have HPL : Hid ((parsed (txt (LN.take 40))).length = 20) := parsed_length _
      have HEH : Hid (parsedE (txt (LN.take 40)) = if isHex (txt (LN.take 40)) = true then 0 else 4) := rfl
      clear hb HO2 HB2 HC2
      generalize parsed (txt (LN.take 40)) = pid at *
      generalize parsedE (txt (LN.take 40)) = eh at *
      generalize isHex (txt (LN.take 40)) = kh at *
      have HIF := Lib.hid (fid_info pid HPL.out)
      have HSF : Hid ((V8 zeros20).size = (V8 pid).size) := by show _ = _; rw [V8_size, V8_size, HPL.out]; rfl
      have HZF : Hid ((w3.alloc (.cells (V8 zeros20) 30)).heap[w3.heap.size]? = some (.cells (V8 zeros20) 30 (0, 0))) := heap_alloc_new _ _
      have hb4 : Below w3.heap.size w3 ((w3.alloc (.cells (V8 zeros20) 30)).setRow w3.heap.size (V8 pid)) := below_setRow ((Below.refl _ _).alloc (Nat.le_refl _) _) (Nat.le_refl _) _
      have HB4 := Lib.hid (HB3.out.trans (hb4.mono HB3.out.size))
      have HO4 := Lib.hid (HO3.out.below hb4)
      have HC4 := Lib.hid (HC3.out.below hb4)
      have HI4 := Lib.hid (setRow_heap _ _ _ (V8 pid) _ _ HZF.out)
      clear hb4 HO3 HC3 HB3
      cases kh
      · have he : eh = 4 := by rw [HEH.out]; rfl
        clear HEH
        subst he
        have HBAD : Hid (MfParse w.heap.size (.returned (.tuple #[.slice none 0 0, .int .i64 4])) ((w3.alloc (.cells (V8 zeros20) 30)).setRow w3.heap.size (V8 pid)) (readL L0)) := HBADF.out _ (by rw [← HOK.out]; rfl)
        clear HBADF HBADF2 HOK
        go_wp2_with (first
          | refine wpList_store_row rfl 30 _ _ rfl w3.heap.size (V8 pid) rfl rfl 30 (V8 zeros20) HZF.out HIF.out HSF.out (V8_one _) ?_)
        (try simp only [Exit.inBlock, Exit.then])
        go_ret2
        exact ⟨HBAD.out, HB4.out⟩
      have he : eh = 0 := by rw [HEH.out]; rfl
      clear HEH
      subst he
      have hok : fileOk L = true := by rw [← HOK.out]; rfl
      obtain ⟨X, hX⟩ : ∃ X : MF, (⟨txt A, pid, txt (LN.drop 40)⟩ : MF) = X := ⟨_, rfl⟩
      have HX20 : Hid (X.n.length = 20) := by show _ = _; rw [← hX]; exact HPL.out
      have HBU : Hid (∀ W, (Instr.build 32 #[(0, .string (txt A)), (1, .agg (V8 pid)), (2, .string (txt (LN.drop 40)))]).run Tryd.prog W = .ok (.agg (fileA X)) W) := fun W => by
        rw [← hX]; exact build_file _ _ pid HPL.out W
      have HBS := Lib.hid (fun W => slice_file X HX20.out W)
      have HQ : Hid (filesL L0 = (filesL RS).map ((acc ++ [X]) ++ ·)) := by
        show _ = _
        rw [HPR.out, files_step hok, HIS.out, HRS.out, hX, Option.map_map]
        congr 1
        funext x
        simp
      have HLR : Hid (RS.length + 42 ≤ L.length) := by show _ ≤ _; have := file_len hok; rw [HRS.out] at this; exact this
      have HAX : Hid ((acc ++ [X]).length = m + 1) := by show _ = _; rw [List.length_append, HM.out]; rfl
      clear hok hX HBADF HBADF2 HPR HOK HIS HRS
      go_wp2_with (first
        | refine wpList_store_row rfl 30 _ _ rfl w3.heap.size (V8 pid) rfl rfl 30 (V8 zeros20) HZF.out HIF.out HSF.out (V8_one _) ?_)
      clear HZF HIF HSF
      generalize (w3.alloc (.cells (V8 zeros20) 30)).setRow w3.heap.size (V8 pid) = w4 at *
      generalize w3.heap.size = bi at *
      have hb5 : Below w4.heap.size w4 (w4.drew.alloc (.cells (fileA X) 32)) := (Below.refl _ _).drew.alloc (Nat.le_refl _) _
      have HB5 := Lib.hid (HB4.out.trans (hb5.mono HB4.out.size))
      have HO5 := Lib.hid (HO4.out.below hb5)
      have HC5 : Hid (Cell (w4.drew.alloc (.cells (fileA X) 32)) w.heap.size (txt RS)) := HC4.out.below hb5
      have HI5 : Hid ((w4.drew.alloc (.cells (fileA X) 32)).heap[bi]? = some (.cells (V8 pid) 30 (0, 0))) := (hb5.block bi (Array.getElem?_eq_some_iff.1 HI4.out).1).trans HI4.out
      have HLI : Hid ((w4.drew.alloc (.cells (fileA X) 32)).rangeAt w4.heap.size 0 (fileL X)) := box_file w4.drew X _
      have hs2 := HS2.out
      clear hb5 HO4 HC4
      refine wp_region_noPanic ?_
      refine wp_region_held_drew (S := fun W => W.heap[bi]? = some (.cells (V8 pid) 30 (0, 0))) (by kernel_rfl) ?_ (fun hHeld => ?_)
      · exact HI4.out
      refine wpAnyH_take (i := 0) (v := ?_) (by simp only [List.getElem?_toArray, List.getElem?_cons_zero]; rfl) (by kernel_rfl) (by kernel_rfl) (by kernel_rfl) (fun _ _ _ h => h) (Or.inl ⟨by rfl, ?_⟩) (by assumption) ?_
      rotate_left
      · intro W hSW
        go_simp
        try with_reducible rfl
      try simp only [Act.put, List.setIfInBounds_toArray, List.set_cons_zero, List.set_cons_succ]
      refine wpAnyH_take (i := 1) (v := ?_) (by simp only [List.getElem?_toArray, List.getElem?_cons_succ, List.getElem?_cons_zero]; rfl) (by kernel_rfl) (by kernel_rfl) (by kernel_rfl) (fun _ _ _ h => h) (Or.inl ⟨by rfl, ?_⟩) (by assumption) ?_
      rotate_left
      · intro W hSW
        go_simp
        try with_reducible rfl
      try simp only [Act.put, List.setIfInBounds_toArray, List.set_cons_zero, List.set_cons_succ]
      refine wpAnyH_take (i := 2) (by simp only [List.getElem?_toArray, List.getElem?_cons_succ, List.getElem?_cons_zero]; rfl) (by kernel_rfl) (by kernel_rfl) (by kernel_rfl) (fun _ _ _ h => h) (yieldsIf_load_mid (by rfl) 30 _ rfl bi 0 rfl (U8 pid) (.array 20 5) (fun W hSW => row_id hSW) Tryd.underlying30 rfl (id_infoL _ HPL.out)) (by assumption) ?_
      try simp only [Act.put, List.setIfInBounds_toArray, List.set_cons_zero, List.set_cons_succ]
      refine wpAnyH_take (i := 3) (v := ?_) (by simp only [List.getElem?_toArray, List.getElem?_cons_succ, List.getElem?_cons_zero]; rfl) (by kernel_rfl) (by kernel_rfl) (by kernel_rfl) (fun _ _ _ h => h) (Or.inl ⟨by rfl, ?_⟩) (by assumption) ?_
      rotate_left
      · intro W hSW
        go_simp
        try with_reducible rfl
      try simp only [Act.put, List.setIfInBounds_toArray, List.set_cons_zero, List.set_cons_succ]
      refine wpAnyH_take (i := 4) (v := ?_) (by simp only [List.getElem?_toArray, List.getElem?_cons_succ, List.getElem?_cons_zero]; rfl) (by kernel_rfl) (by kernel_rfl) (by kernel_rfl) (fun _ _ _ h => h) (Or.inl ⟨by rfl, ?_⟩) (by assumption) ?_
      rotate_left
      · intro W hSW
        go_simp
        try with_reducible rfl
      try simp only [Act.put, List.setIfInBounds_toArray, List.set_cons_zero, List.set_cons_succ]
      refine wpAnyH_take (i := 5) (by simp only [List.getElem?_toArray, List.getElem?_cons_succ, List.getElem?_cons_zero]; rfl) (by kernel_rfl) (by kernel_rfl) (by kernel_rfl) (fun _ _ _ h => h) (yieldsIf_build (by rfl) _ _ rfl #[(0, .string (txt A)), (1, .agg (V8 pid)), (2, .string (txt (LN.drop 40)))] (map_three _ _ _ _ _ _ _ rfl rfl rfl) (.agg (fileA X)) HBU.out) (by assumption) ?_
      try simp only [Act.put, List.setIfInBounds_toArray, List.set_cons_zero, List.set_cons_succ]
      refine wpAnyH_ready (rs := [6]) (by kernel_rfl) (by simp) ?_
      refine AllReadyH.cons (by simp only [List.getElem?_toArray, List.getElem?_cons_succ, List.getElem?_cons_zero]; rfl) (fun K hK => ?_) AllReadyH.nil
      refine step_slice (by rfl) _ _ _ rfl #[(0, .agg (fileA X))] (map_one _ _ _ rfl) _ _ (HBS.out _) ?_
      refine hK.out _ _ (HI5.out) (fun hHeld2 => ?_)
      clear hK K hHeld
      have hHeld := hHeld2
      clear hHeld2
      try simp only [Act.put, List.setIfInBounds_toArray, List.set_cons_zero, List.set_cons_succ]
      refine wpAnyH_ready (rs := [7]) (by kernel_rfl) (by simp) ?_
      refine AllReadyH.cons (by simp only [List.getElem?_toArray, List.getElem?_cons_succ, List.getElem?_cons_zero]; rfl) (fun K hK => ?_) AllReadyH.nil
      refine step_append_file rfl _ _ rfl w.heap.size (.slice la m lc) acc m HM.out rfl HO5.out w4.heap.size X HX20.out rfl HLI.out (by have := HMB.out; omega) HB5.out.size ?_
      rintro g2 gc2 w7 ho7 hg7 hgg hgl
      have HO7 := Lib.hid ho7
      have HB7 := Lib.hid (HB5.out.trans (own_off HO5.out HB5.out.size hg7))
      have HC7 := Lib.hid (row_grown HC5.out HO5.out (by decide) hg7)
      have HI7 := Lib.hid (row_grown HI5.out HO5.out (by decide) hg7)
      clear ho7 hg7 hgg hgl
      refine hK.out _ _ (HI7.out) (fun hHeld2 => ?_)
      clear hK K hHeld
      have hHeld := hHeld2
      clear hHeld2
      try simp only [Act.put, List.setIfInBounds_toArray, List.set_cons_zero, List.set_cons_succ]
      refine wpAnyH_take (i := 8) (v := ?_) (by simp only [List.getElem?_toArray, List.getElem?_cons_succ, List.getElem?_cons_zero]; rfl) (by kernel_rfl) (by kernel_rfl) (by kernel_rfl) (fun _ _ _ h => h) (Or.inl ⟨by rfl, ?_⟩) (by assumption) ?_
      rotate_left
      · intro W hSW
        go_simp
        try with_reducible rfl
      try simp only [Act.put, List.setIfInBounds_toArray, List.set_cons_zero, List.set_cons_succ]
      refine wpAnyH_done (by kernel_rfl) ?_ _
      refine NoPanic.normal ?_
      clear hHeld hs2 HBU HBS HLI HO5 HI5 HC5 HB5
      have HLE := Lib.hid (lenAt_eq HC7.out)
      have HSZ2 : Hid (42 * (acc ++ [X]).length + RS.length ≤ L0.length) := by
        show _ ≤ _
        have h1 := HSZ.out; have h2 := HLR.out
        rw [HAX.out]
        omega
      go_wp2_with fail
      exact ⟨⟨acc ++ [X], RS, HO7.out, HC7.out, HQ.out, HSZ2.out, HB7.out⟩, by
        rw [HLE.out, HLW.out, txt_size, txt_size]
        have := HLR.out
        omega⟩
end Go.Proofs.YtcbjadecocggjaaDoor
