/- A change's time, zone and extras, read: the walk. -/
import Derived.Test.YthokcdjmhhlcdaaGreatDoorChRead2
namespace Go.Proofs.YthokcdjmhhlcdaaGreatDoor
open Go.RowKit Go.Shelf Plain
set_option linter.unusedVariables false
set_option linter.unusedSimpArgs false
theorem build_ext (a b : ByteArray) (W : World) : (Instr.build 48 #[(0, .string a), (1, .string b)]).run Tryz.prog W = .ok (.agg (extE (a, b)).toArray) W := run_build W _ _ _ (by kernel_rfl)
theorem slice_ext (x : ByteArray × ByteArray) (W : World) : (Instr.buildSlice 28 1 #[(0, .agg (extE x).toArray)]).run Tryz.prog W = .ok (.slice (some ⟨W.heap.size, 0, none⟩) 1 1) (W.alloc (.cells (extE x).toArray 48)) := by
  obtain ⟨hu, i, z, hi, hz, h1, -, h3⟩ := elem_ext
  refine run_buildSlice W _ _ _ _ _ i _ hu hi hz (by rw [h1]; decide) (by rw [h1]; decide) ?_
  rw [h1]
  have := Go.Great.fill_whole (s := 2) (by omega) [Value.agg (extE x).toArray] (Array.map (fun x => z.cells[x % z.cells.size]!) (Array.range (1 * 2))) (fun v hv => by simp at hv; subst hv; rfl) (by simp)
  simpa [Value.cells] using this
theorem one_ext (W : World) (x : ByteArray × ByteArray) (t : TypeId) : ∀ (j : Nat) y, [x][j]? = some y → (W.alloc (.cells (extE x).toArray t)).rangeAt W.heap.size (0 + j * 2) (extE y) := fun j y hj => by
  have h0 : j = 0 := by
    have := (List.getElem?_eq_some_iff.1 hj).1
    simp at this; omega
  subst h0
  obtain rfl : x = y := by simpa using hj
  intro i v hv
  rw [cell_of_row _ _ _ _ _ _ (heap_alloc_new W _), ← hv]
  simp
theorem cut_lens (l : List UInt8) (c : UInt8) : (Lib.cut l [c]).1.length ≤ l.length ∧ (Lib.cut l [c]).2.1.length ≤ l.length := cut_len l c
theorem split_words (l : List UInt8) : (Lib.splitB ⟨#[0]⟩ 0 (Lib.countB (txt l) ⟨#[0]⟩) (txt l)).map (·.data.toList) = Lib.split l [0] := by
  rw [Lib.splitB_data, txt_list]
  show _ = Lib.splitK [0] 0 (Lib.count l [0]) l
  have : Lib.countB (txt l) ⟨#[0]⟩ = Lib.count l [0] := by
    show Lib.count (txt l).data.toList _ = _
    rw [txt_list]
  rw [this]
theorem splitB_size : ∀ (k : Nat) (s : ByteArray), ∀ p ∈ Lib.splitB ⟨#[0]⟩ 0 k s, p.size ≤ s.size
  | 0, s, p, h => by
    rw [Lib.splitB_zero, List.mem_singleton] at h
    rw [h]; exact Nat.le_refl _
  | k + 1, s, p, h => by
    rw [Lib.splitB] at h
    split at h
    · rw [List.mem_singleton] at h
      rw [h]; exact Nat.le_refl _
    · rcases List.mem_cons.1 h with rfl | h
      · rw [ByteArray.size_extract]; omega
      · have := splitB_size k _ p h
        rw [ByteArray.size_extract] at this
        omega
def wordQ (p : ByteArray) : ByteArray × ByteArray := wordP p.data.toList
set_option maxRecDepth 100000 in
set_option maxHeartbeats 16000000 in
theorem rddate_any (r : Nat) (l : List UInt8) (w w0 : World) (h : RdAt w r l) (hl : l.length ≤ 100000) (hE : EnvC w0) (hb0 : Below w0.heap.size w0 w) (hr0 : w0.heap.size ≤ r) :
    Calls Tryz.prog 26 #[.pointer (some ⟨r, 0, none⟩)] w fun e w' => (∃ v, e = .returned (.tuple #[.int .i64 (numP (timeP (Lib.cut l [10]).1)), .int .i64 (numP (zoneP (Lib.cut l [10]).1)), v]) ∧ OwnG 2 extE 48 w' w.heap.size v (extsP (Lib.cut l [10]).1)) ∧ RdAt w' r (Lib.cut l [10]).2.1 ∧ FrR r w w' := by
  have HEW : Hid (∀ w', FrR r w w' → EnvC w') := fun w' hf => hE.below (hb0.trans (hf.below hr0 hb0.size))
  have HLT := Lib.hid h.lt
  have HLI := Lib.hid (line_any r l w h (by omega) (hE.below hb0).env)
  have HDL : Hid ((Lib.cut l [10]).1.length ≤ 100000) := by show _ ≤ _; have := (cut_len l 10).1; omega
  clear h hl hE hb0 hr0
  generalize (Lib.cut l [10]).2.1 = rs at *
  generalize (Lib.cut l [10]).1 = D at *
  have HTL : Hid ((timeP D).length ≤ 100000) := by show _ ≤ _; unfold timeP; have := (cut_len D 32).1; have := HDL.out; omega
  have HBL : Hid ((Lib.cut D [32]).2.1.length ≤ 100000) := by show _ ≤ _; have := (cut_len D 32).2; have := HDL.out; omega
  have HZL : Hid ((zoneP D).length ≤ 100000) := by show _ ≤ _; unfold zoneP; have := (cut_len (Lib.cut D [32]).2.1 32).1; have := HBL.out; omega
  have HWL : Hid ((Lib.cut (Lib.cut D [32]).2.1 [32]).2.1.length ≤ 100000) := by show _ ≤ _; have := (cut_len (Lib.cut D [32]).2.1 32).2; have := HBL.out; omega
  obtain ⟨TM, hTM⟩ : ∃ x, timeP D = x := ⟨_, rfl⟩
  obtain ⟨ZN, hZN⟩ : ∃ x, zoneP D = x := ⟨_, rfl⟩
  obtain ⟨BH, hBH⟩ : ∃ x, (Lib.cut D [32]).2.1 = x := ⟨_, rfl⟩
  obtain ⟨WS, hWS⟩ : ∃ x, (Lib.cut BH [32]).2.1 = x := ⟨_, rfl⟩
  obtain ⟨MR, hMR⟩ : ∃ x, (Lib.cut BH [32]).2.2 = x := ⟨_, rfl⟩
  have HC1 : Hid (∀ W, EnvC W → Calls Tryz.prog 44 #[.string (txt D), .string ⟨#[32]⟩] W fun e w' => e = .returned (.tuple #[.string (txt TM), .string (txt BH), .bool (Lib.cut D [32]).2.2]) ∧ Below W.heap.size W w') := fun W hW => by
    have := cut_any D 32 W hW.env (by have := HDL.out; omega)
    rw [hBH, show (Lib.cut D [32]).1 = TM from hTM] at this
    exact this
  have hz2 : (Lib.cut BH [32]).1 = ZN := by rw [← hBH]; exact hZN
  have HC2 : Hid (∀ W, EnvC W → Calls Tryz.prog 44 #[.string (txt BH), .string ⟨#[32]⟩] W fun e w' => e = .returned (.tuple #[.string (txt ZN), .string (txt WS), .bool MR]) ∧ Below W.heap.size W w') := fun W hW => by
    have := cut_any BH 32 W hW.env (by have := HBL.out; rw [hBH] at this; omega)
    rw [hz2, hWS, hMR] at this
    exact this
  have HEX : Hid (extsP D = if MR = true then (Lib.split WS [0]).map wordP else []) := by
    show _ = _
    unfold extsP
    rw [hBH, hWS, hMR]
  rw [hTM, hZN]
  rw [hTM] at HTL
  rw [hZN] at HZL
  rw [hBH, hWS] at HWL
  clear hTM hZN hBH hWS hMR hz2 HBL
  generalize (Lib.cut D [32]).2.2 = M1 at *
  go_enter Tryz.func26, Tryz.ntmps26
  go_wp2_with fail
  refine HLI.out.mono ?_
  rintro e w1 ⟨rfl, hr, hf⟩
  have HR1 := Lib.hid hr
  have HF1 := Lib.hid hf
  clear hr hf HLI
  go_wp2_with fail
  refine (HC1.out w1 (HEW.out w1 HF1.out)).mono ?_
  rintro e w2 ⟨rfl, hb⟩
  have HR2 := Lib.hid (HR1.out.below hb)
  have HF2 := Lib.hid (HF1.out.trans (FrR.of (r := r) hb))
  clear hb HC1 HR1 HF1
  go_wp2_with fail
  refine (HC2.out w2 (HEW.out w2 HF2.out)).mono ?_
  rintro e w3 ⟨rfl, hb⟩
  have HR3 := Lib.hid (HR2.out.below hb)
  have HF3 := Lib.hid (HF2.out.trans (FrR.of (r := r) hb))
  clear hb HC2 HR2 HF2
  cases MR
  · have HEX0 : Hid (extsP D = []) := by rw [HEX.out]; rfl
    go_wp2_with fail
    refine (number_any TM w3 (HEW.out w3 HF3.out) (by have := HTL.out; omega)).mono ?_
    rintro e w4 ⟨rfl, hb⟩
    have HR4 := Lib.hid (HR3.out.below hb)
    have HF4 := Lib.hid (HF3.out.trans (FrR.of (r := r) hb))
    clear hb HR3 HF3
    go_wp2_with fail
    refine (number_any ZN w4 (HEW.out w4 HF4.out) (by have := HZL.out; omega)).mono ?_
    rintro e w5 ⟨rfl, hb⟩
    have HR5 := Lib.hid (HR4.out.below hb)
    have HF5 := Lib.hid (HF4.out.trans (FrR.of (r := r) hb))
    clear hb HR4 HF4
    go_wp2_with fail
    go_ret3
    exact ⟨⟨_, rfl, by rw [HEX0.out]; exact OwnG.nil _ _ _⟩, HR5.out, HF5.out⟩
  · have hev := (HEW.out w3 HF3.out).env.most
    obtain ⟨mx, hmx⟩ := hev
    have HSP0 := Tryz.strings_Split (txt WS) ⟨#[0]⟩ mx w3 (by rw [txt_size]; have := HWL.out; omega) hmx (by decide)
    have hwl := Lib.splitB_all ⟨#[0]⟩ (by decide) 0 (Lib.countB (txt WS) ⟨#[0]⟩) (txt WS) rfl
    have hcl := Lib.countB_le ⟨#[0]⟩ (by decide) (txt WS).size (txt WS) (Nat.le_refl _)
    have hww := split_words WS
    have hsz := splitB_size (Lib.countB (txt WS) ⟨#[0]⟩) (txt WS)
    obtain ⟨ws, hws⟩ : ∃ x, Lib.splitB ⟨#[0]⟩ 0 (Lib.countB (txt WS) ⟨#[0]⟩) (txt WS) = x := ⟨_, rfl⟩
    rw [hws] at HSP0 hwl hww hsz
    rw [← hwl] at HSP0
    obtain ⟨n, hn⟩ : ∃ n, ws.length = n := ⟨_, rfl⟩
    have HN := Lib.hid hn
    have HNB : Hid (n ≤ 100001) := by show _ ≤ _; rw [← hn, hwl]; rw [txt_size] at hcl; have := HWL.out; omega
    have HPS : Hid (∀ p ∈ ws, p.size ≤ 100000) := fun p hp => by have := hsz p hp; rw [txt_size] at this; have := HWL.out; omega
    have HEXW : Hid (extsP D = ws.map wordQ) := by
      show _ = _
      rw [HEX.out, if_pos rfl, ← hww, List.map_map]
      rfl
    rw [hn] at HSP0
    have HSP := Lib.hid HSP0
    clear HSP0 hwl hcl hww hsz hws hn hmx HEX
    go_wp2_with fail
    refine HSP.out.mono ?_
    rintro e w4 ⟨rfl, hw4⟩
    have HROW : Hid (w4.heap[w3.heap.size]? = some (.cells (ws.map Value.string).toArray 9 (0, 0))) := by rw [hw4]; exact heap_alloc_new _ _
    have hb4 : Below w3.heap.size w3 w4 := by rw [hw4]; exact (Below.refl _ _).alloc (Nat.le_refl _) _
    have HR4 := Lib.hid (HR3.out.below hb4)
    have HF4 := Lib.hid (HF3.out.trans (FrR.of (r := r) hb4))
    clear hw4 hb4 HR3 HSP
    obtain ⟨g, hg⟩ : ∃ g, w3.heap.size = g := ⟨_, rfl⟩
    rw [hg] at HROW ⊢
    clear hg HF3
    have HLG : Hid (g < w4.heap.size) := (Array.getElem?_eq_some_iff.1 HROW.out).1
    go_wp2_with fail
    go_loopw [11, 36] (fun lv i wr => ∃ k : Nat, k ≤ n ∧ i = .int .i64 (k : Int) ∧ OwnG 2 extE 48 wr w4.heap.size lv ((ws.take k).map wordQ) ∧ Below w4.heap.size w4 wr) (fun _ i _ => n - (intOf i).toNat)
    case atStart => exact ⟨0, Nat.zero_le _, rfl, OwnG.nil _ _ _, Below.refl _ _⟩
    case round =>
      obtain ⟨k, hk, rfl, hown, hb⟩ := hrel
      obtain ⟨la, lc, rfl⟩ := hown.shape
      have hlen : ((ws.take k).map wordQ).length = k := by rw [List.length_map, List.length_take, HN.out]; omega
      rw [hlen] at hown ⊢
      have HLEN := Lib.hid hlen
      have HO := Lib.hid hown
      have HBW := Lib.hid hb
      have WK := Lib.hid (next_int k (by have := HNB.out; omega))
      clear hlen hown hb
      by_cases hkn : k < n
      · have hki : (k : Int) < (n : Int) := by omega
        have HKN := Lib.hid hkn
        obtain ⟨p, hp⟩ : ∃ p, ws[k]? = some p := ⟨_, List.getElem?_eq_getElem (by rw [HN.out]; exact hkn)⟩
        have HP := Lib.hid hp
        have HPB := Lib.hid (HPS.out p (List.mem_of_getElem? hp))
        have hcp : wr.cell? ⟨g, k, none⟩ = some (.string p) := by
          rw [cell_of_row _ _ _ _ _ _ ((HBW.out.block g HLG.out).trans HROW.out), List.getElem?_toArray, List.getElem?_map, hp]; rfl
        have HEV := Lib.hid (HEW.out wr (HF4.out.trans (FrR.of (r := r) HBW.out)))
        obtain ⟨KY, hKY⟩ : ∃ x, (Lib.cut p.data.toList [58]).1 = x := ⟨_, rfl⟩
        obtain ⟨VL, hVL⟩ : ∃ x, (Lib.cut p.data.toList [58]).2.1 = x := ⟨_, rfl⟩
        have HVLL : Hid (VL.length ≤ 1000000) := by show _ ≤ _; rw [← hVL]; have h1 := (cut_len p.data.toList 58).2; have h2 := Lib.size_eq p; have h3 := HPB.out; omega
        have HCT0 := cut_any p.data.toList 58 wr HEV.out.env (by have h2 := Lib.size_eq p; have h3 := HPB.out; omega)
        rw [hKY, hVL, txt_of] at HCT0
        have HCT := Lib.hid HCT0
        have HWQ : Hid (wordQ p = (txt KY, txt (unval VL))) := by show _ = _; unfold wordQ wordP; rw [hKY, hVL]
        have HTK : Hid ((ws.take (k + 1)).map wordQ = (ws.take k).map wordQ ++ [wordQ p]) := by show _ = _; rw [List.take_add_one, hp, List.map_append]; rfl
        clear hp hkn hk HCT0 hKY hVL
        generalize (Lib.cut p.data.toList [58]).2.2 = cb at *
        go_wp2_with fail
        clear hcp
        refine HCT.out.mono ?_
        rintro e w5 ⟨rfl, hb⟩
        have HB5 := Lib.hid (HBW.out.trans (hb.mono HBW.out.size))
        have HO5 := Lib.hid (HO.out.below hb)
        clear hb HCT HO
        go_wp2_with fail
        refine (parseval_any VL w5 HVLL.out).mono ?_
        rintro e w6 ⟨rfl, hb⟩
        have HB6 := Lib.hid (HB5.out.trans (hb.mono HB5.out.size))
        have HO6 := Lib.hid (HO5.out.below hb)
        clear hb HO5 HB5
        obtain ⟨K1, hK1⟩ : ∃ x, txt KY = x := ⟨_, rfl⟩
        obtain ⟨V1, hV1⟩ : ∃ x, txt (unval VL) = x := ⟨_, rfl⟩
        have HWX : Hid (wordQ p = (K1, V1)) := by show _ = _; rw [HWQ.out, hK1, hV1]
        rw [HWX.out] at HTK
        rw [hV1]
        have hK1' := hK1
        have HBA : Hid (Below w4.heap.size w4 (w6.alloc (.cells #[.string K1, .string V1] 48))) := HB6.out.alloc HB6.out.size _
        have HOA := Lib.hid (HO6.out.below ((Below.refl w6.heap.size w6).alloc (Nat.le_refl _) (.cells #[.string K1, .string V1] 48)))
        have HRW1 : Hid (∀ (j : Nat) y, [(K1, V1)][j]? = some y → (w6.alloc (.cells #[.string K1, .string V1] 48)).rangeAt w6.heap.size (0 + j * 2) (extE y)) := one_ext w6 (K1, V1) _
        rw [hK1]
        clear hK1 hK1' hV1 HWQ HWX
        go_wp2_with (first
          | (refine wpList_append_G elem_ext extE_len (by decide) (by decide) extE_one rfl _ _ rfl w4.heap.size (.slice la k lc) ((ws.take k).map wordQ) k HLEN.out rfl HOA.out w6.heap.size 0 1 1 [(K1, V1)] rfl (by decide) rfl HRW1.out (k + 1) ((ws.take k).map wordQ ++ [(K1, V1)]) rfl rfl (by have := HKN.out; have := HNB.out; omega) HBA.out.size ?_
             rintro g2 gc2 w7 ho7 hg7 hgg hgl
             have HO7 := Lib.hid ho7
             have HB7 := Lib.hid (HBA.out.trans (own_off HOA.out HBA.out.size hg7))
             clear ho7 hg7 hgg hgl))
        exact ⟨⟨k + 1, HKN.out, by first | rw [WK.out _ rfl] | rfl, by rw [HTK.out]; exact HO7.out, HB7.out⟩, by have := HKN.out; (first | rw [WK.out _ rfl] | skip); simp [intOf]; omega⟩
      · have hki : ¬ (k : Int) < (n : Int) := by omega
        have hkn' : k = n := by omega
        have HOW : Hid (OwnG 2 extE 48 wr w4.heap.size (.slice la k lc) (extsP D)) := by
          have := HO.out
          rw [List.take_of_length_le (by rw [HN.out]; omega), ← HEXW.out] at this
          exact this
        have HRW := Lib.hid (HR4.out.below HBW.out)
        have HFW := Lib.hid (HF4.out.trans (FrR.of (r := r) HBW.out))
        have HSW : Hid (w.heap.size ≤ w4.heap.size) := HF4.out.size
        clear hkn hk hkn' HO HBW HR4 HF4
        go_wp2_with fail
        refine (number_any TM wr (HEW.out wr HFW.out) (by have := HTL.out; omega)).mono ?_
        rintro e w5 ⟨rfl, hb⟩
        have HR5 := Lib.hid (HRW.out.below hb)
        have HF5 := Lib.hid (HFW.out.trans (FrR.of (r := r) hb))
        have HO5 := Lib.hid (HOW.out.below hb)
        clear hb HRW HFW HOW
        go_wp2_with fail
        refine (number_any ZN w5 (HEW.out w5 HF5.out) (by have := HZL.out; omega)).mono ?_
        rintro e w6 ⟨rfl, hb⟩
        have HR6 := Lib.hid (HR5.out.below hb)
        have HF6 := Lib.hid (HF5.out.trans (FrR.of (r := r) hb))
        have HO6 := Lib.hid ((HO5.out.below hb).lower HSW.out)
        clear hb HR5 HF5 HO5
        go_wp2_with fail
        go_ret3
        exact ⟨⟨_, rfl, HO6.out⟩, HR6.out, HF6.out⟩
end Go.Proofs.YthokcdjmhhlcdaaGreatDoor
