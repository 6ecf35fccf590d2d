/- The document's ParseTag: the walk. -/
import Derived.Test.YtindmggmblmmcaaGreatDoorCoRawB
import Derived.Test.YtindmggmblmmcaaGreatDoorTgRef
import Derived.Deep.CutBlock
namespace Go.Proofs.YtindmggmblmmcaaGreatDoor
open Go.RowKit Plain Go.ChangeShapes Go.WideShapes Go.ChangeAt Go.Great
set_option linter.unusedVariables false
set_option linter.unusedSimpArgs false
theorem fObj_any (l : List UInt8) (w : World) (hl : l.length ≤ 1000000) : Calls Tryz.prog 48 #[.string (txt l), .string ⟨#[111, 98, 106, 101, 99, 116, 32]⟩] w fun e w' => e = .returned (.string (txt (frontW (kObj ++ [32]) l))) ∧ Below w.heap.size w w' := frontw_any (kObj ++ [32]) l w (by decide) hl
theorem fTyp_any (l : List UInt8) (w : World) (hl : l.length ≤ 1000000) : Calls Tryz.prog 48 #[.string (txt l), .string ⟨#[116, 121, 112, 101, 32]⟩] w fun e w' => e = .returned (.string (txt (frontW (kTyp ++ [32]) l))) ∧ Below w.heap.size w w' := frontw_any (kTyp ++ [32]) l w (by decide) hl
theorem fTag_any (l : List UInt8) (w : World) (hl : l.length ≤ 1000000) : Calls Tryz.prog 48 #[.string (txt l), .string ⟨#[116, 97, 103, 32]⟩] w fun e w' => e = .returned (.string (txt (frontW (kTag ++ [32]) l))) ∧ Below w.heap.size w w' := frontw_any (kTag ++ [32]) l w (by decide) hl
theorem fTgr_any (l : List UInt8) (w : World) (hl : l.length ≤ 1000000) : Calls Tryz.prog 48 #[.string (txt l), .string ⟨#[116, 97, 103, 103, 101, 114, 32]⟩] w fun e w' => e = .returned (.string (txt (frontW (kTgr ++ [32]) l))) ∧ Below w.heap.size w w' := frontw_any (kTgr ++ [32]) l w (by decide) hl
theorem build_rtagz (W : World) : (Instr.build 54 #[]).run Tryz.prog W = .ok (.agg (tgA tz)) W := run_build W _ _ _ (by kernel_rfl)
/-- What the document's ParseTag answers. -/
def RTParse (e : Ending) (o : Option TX) : Prop := match o with
  | some x => e = .returned (.tuple #[.agg (tgA x), .bool true])
  | none => e = .returned (.tuple #[.agg (tgA tz), .bool false])
structure RTg (w4 : World) (cb : Nat) (W : World) (X : TX) : Prop where
  fr : FrR cb w4 W
  h20 : X.o.length = 20
  co : W.heap[cb]? = some (.cells (tgA X) 54 (0, 0))
theorem RTg.below {w4 W W' : World} {cb : Nat} {X : TX} (h : RTg w4 cb W X) (hb : Below W.heap.size W W') : RTg w4 cb W' X :=
  ⟨h.fr.trans (FrR.of hb), h.h20, (hb.block cb (Array.getElem?_eq_some_iff.1 h.co).1).trans h.co⟩
theorem RTg.cells {w4 W : World} {cb : Nat} {X : TX} (h : RTg w4 cb W X) (o : Nat) (vs : List Value) (X' : TX) (h20 : X'.o.length = 20) (hs : setAll (tgA X) o vs = tgA X') : RTg w4 cb (W.setCells cb o vs) X' :=
  ⟨h.fr.trans (FrR.setCells vs o W), h20, by rw [heap_setCells cb _ vs o W _ h.co, hs]⟩
theorem RTg.cell {w4 W : World} {cb : Nat} {X : TX} (h : RTg w4 cb W X) (i : Nat) (v : Value) (X' : TX) (h20 : X'.o.length = 20) (hs : (tgA X).setIfInBounds i v = tgA X') : RTg w4 cb (W.setCell ⟨cb, i, none⟩ v) X' :=
  ⟨h.fr.trans (FrR.setCell cb i v W), h20, (heap_setCell_same W cb i _ _ _ h.co).trans (by rw [hs])⟩
theorem tgA_set (x : TX) (h20 : x.o.length = 20) (i : Nat) (v : Value) : (tgA x).setIfInBounds (20 + i) v = (U8 x.o ++ (tgT x).set i v).toArray := by
  unfold tgA tgL
  rw [List.setIfInBounds_toArray, List.set_append_right _ _ (by rw [U8_length, h20]; omega), U8_length, h20, show 20 + i - 20 = i by omega]
theorem tgA_obj (x : TX) (h20 : x.o.length = 20) (o : List Int) (ho : o.length = 20) : setAll (tgA x) 0 (U8 o) = tgA { x with o := o } := by
  apply Array.toList_inj.1
  rw [setAll_list _ _ _ (by rw [U8_length, ho, tgA_size _ h20]; decide), U8_length, ho]
  show (tgL x).take 0 ++ U8 o ++ (tgL x).drop (0 + 20) = _
  unfold tgL
  rw [List.take_zero, List.drop_left' (by rw [U8_length, h20])]
  rfl
theorem tgA_tagger (x : TX) (h20 : x.o.length = 20) (y : WX) : setAll (tgA x) 22 (whoL y) = tgA { x with t := y } := by
  apply Array.toList_inj.1
  rw [setAll_list _ _ _ (by rw [tgA_size _ h20]; show _ + 4 ≤ 27; omega)]
  have := set_mid (U8 x.o ++ [.int .i64 x.k, .string x.n]) (whoL x.t) [.string x.m] (whoL y) 22 (by rw [List.length_append, U8_length, h20]; rfl) rfl
  simp only [List.append_assoc, List.cons_append, List.nil_append] at this
  unfold tgA tgL tgT
  simpa [List.append_assoc] using this
theorem rtg_there {w : World} {b : Nat} {x : TX} (h : w.heap[b]? = some (.cells (tgA x) 54 (0, 0))) (h20 : x.o.length = 20) (o n : Nat) (ho : o + n ≤ 27) : w.there b o n := fun j hj => by
  refine ⟨?_, frozen_of_row w b (o + j) _ _ h⟩
  rw [cell_of_row _ _ _ _ _ _ h, Array.getElem?_eq_getElem (by rw [tgA_size _ h20]; omega)]
  rfl
theorem kind_next (s : ByteArray) (j : Nat) : kindUpto s (j + 1) = if wordAt ((j + 1 : Nat) : Int) = s then j + 1 else kindUpto s j := rfl
theorem rt_eq (L : List UInt8) (l : List (List UInt8)) (x0 x1 x2 x3 : List UInt8) (hl : linesF L = l) (h0 : l[0]? = some x0) (h1 : l[1]? = some x1) (h2 : l[2]? = some x2) (h3 : l[3]? = some x3) :
    rawRT L = ⟨parsed (txt (frontW (kObj ++ [32]) x0)), (kindUpto (txt (frontW (kTyp ++ [32]) x1)) 4 : Nat), txt (frontW (kTag ++ [32]) x2), guessX (frontW (kTgr ++ [32]) x3), txt (joinL (l.drop 5))⟩ := by
  unfold rawRT
  rw [hl, h0, h1, h2, h3]
  rfl
set_option maxRecDepth 100000 in
set_option maxHeartbeats 32000000 in
theorem rptag_any (L : List UInt8) (w : World) (hL : L.length ≤ 2000) (hE : EnvC w) :
    Calls Tryz.prog 18 #[.string (txt L)] w fun e w' => RTParse e (parseT L) ∧ Below w.heap.size w w' := by
  have HE := Lib.hid hE
  have hrp := rawT_parse L
  have hsl := sum_lines _ L (Nat.le_refl _)
  have hlines : ∀ W : World, Calls Tryz.prog 46 #[.string (txt L)] W fun e w' => LinesQ W.heap.size e w' L ∧ Below W.heap.size W w' := fun W => lines_any L W (by omega)
  unfold LinesQ at hlines
  have hrt := rt_eq L
  obtain ⟨l, hl⟩ : ∃ l, linesF L = l := ⟨_, rfl⟩
  have HRT := Lib.hid (fun x0 x1 x2 x3 => hrt l x0 x1 x2 x3 hl)
  rw [hl] at hrp hsl hlines
  have HSL : Hid (sumL l ≤ 2001) := by show _ ≤ _; omega
  have HLL : Hid (∀ (k : Nat) x, l[k]? = some x → x.length ≤ 2000) := fun k x hk => by have := sum_mem l x (List.mem_of_getElem? hk); omega
  obtain ⟨n, hn⟩ : ∃ n, l.length = n := ⟨_, rfl⟩
  have HN := Lib.hid hn
  have HNB : Hid (n ≤ 2001) := by have := sum_count l; show _ ≤ _; omega
  rw [hn] at hlines hrp
  have HRP := Lib.hid hrp
  have hzr := zero_rtag
  have HB1 : Hid (Below w.heap.size w (w.alloc (.cells (tgA tz) 54))) := (Below.refl _ _).alloc (Nat.le_refl _) _
  have HZ1 : Hid ((w.alloc (.cells (tgA tz) 54)).heap[w.heap.size]? = some (.cells (tgA tz) 54 (0, 0))) := heap_alloc_new _ _
  have HICZ : Hid ((Tryz.prog.info? 54).map (·.size) = some (tgA tz).size) := info_rtagA tz tz_20
  clear hrp hrt hsl hL hE hl hn
  go_enter Tryz.func18, Tryz.ntmps18
  go_wp2_with fail
  refine (hlines _).mono ?_
  rintro e w1 ⟨⟨la, lc, rfl, hO⟩, hb⟩
  clear hlines
  obtain ⟨lb, rfl, hlb1, hlb2, hcell⟩ := lines_cell hO
  have HB2 := Lib.hid (HB1.out.trans (hb.mono HB1.out.size))
  have HZ2 := Lib.hid ((hb.block _ (by simp)).trans HZ1.out)
  have HSZ : Hid (w.heap.size < w1.heap.size) := by have := hb.size; simp at this; show _ < _; omega
  by_cases h6 : n < 6
  · have h6i : (n : Int) < 6 := by omega
    have HPN : Hid (parseT L = none) := by show _ = _; rw [HRP.out, if_neg (fun h => by omega)]
    clear hO hb hcell hlb1 hlb2 HB1 HZ1 h6
    go_wp2_with (first
      | refine wpList_buildQ rfl 54 _ rfl #[] (by rfl) _ build_rtagz ?_
      | refine wpList_store_row rfl 54 _ _ rfl w.heap.size (tgA tz) rfl rfl 54 (tgA tz) HZ2.out HICZ.out rfl (tgA_one tz) ?_)
    refine bodyPost_ret (results_row_tmp Tryz.results18 _ _ w.heap.size 54 (tgA tz) (0, 0) _ rfl (setRow_heap _ _ _ _ _ _ HZ2.out) Tryz.underlying54 rfl HICZ.out) rfl ⟨?_, ?_⟩
    · rw [HPN.out]; exact rfl
    · exact below_setRow HB2.out (Nat.le_refl _) _
  have h6i : ¬ (n : Int) < 6 := by omega
  have HN6 : Hid (6 ≤ n) := by show _ ≤ _; omega
  have HW4 : Hid (RTg (w1.alloc (.cells (tgA tz) 54)) w1.heap.size (w1.alloc (.cells (tgA tz) 54)) tz) := ⟨FrR.refl _ _, tz_20, heap_alloc_new _ _⟩
  have HB4 : Hid (Below w.heap.size w (w1.alloc (.cells (tgA tz) 54))) := HB2.out.alloc HB2.out.size _
  have HZ4 : Hid ((w1.alloc (.cells (tgA tz) 54)).heap[w.heap.size]? = some (.cells (tgA tz) 54 (0, 0))) := (Below.heap_alloc _ _ _ (Array.getElem?_eq_some_iff.1 HZ2.out).1).trans HZ2.out
  have HFL : Hid (∀ W, FrR w1.heap.size (w1.alloc (.cells (tgA tz) 54)) W → ∀ (k : Nat) x, l[k]? = some x → W.cell? ⟨lb, k, none⟩ = some (.string (txt x))) := fun W hW k x hk => hcell W ((hW.block lb (by simp; omega) (by omega)).trans (Below.heap_alloc _ _ _ hlb2)) k (txt x) (by rw [List.getElem?_map, hk]; rfl)
  clear hO hb hcell hlb1 hlb2 HB1 HZ1 HB2 HZ2 h6
  obtain ⟨x0, hx0⟩ : ∃ x, l[0]? = some x := ⟨_, List.getElem?_eq_getElem (by rw [HN.out]; have := HN6.out; omega)⟩
  obtain ⟨x1, hx1⟩ : ∃ x, l[1]? = some x := ⟨_, List.getElem?_eq_getElem (by rw [HN.out]; have := HN6.out; omega)⟩
  obtain ⟨x2, hx2⟩ : ∃ x, l[2]? = some x := ⟨_, List.getElem?_eq_getElem (by rw [HN.out]; have := HN6.out; omega)⟩
  obtain ⟨x3, hx3⟩ : ∃ x, l[3]? = some x := ⟨_, List.getElem?_eq_getElem (by rw [HN.out]; have := HN6.out; omega)⟩
  have hraw := HRT.out x0 x1 x2 x3 hx0 hx1 hx2 hx3
  obtain ⟨o, ho⟩ : ∃ t, parsed (txt (frontW (kObj ++ [32]) x0)) = t := ⟨_, rfl⟩
  obtain ⟨s, hs⟩ : ∃ t, txt (frontW (kTyp ++ [32]) x1) = t := ⟨_, rfl⟩
  obtain ⟨nm, hnm⟩ : ∃ t, txt (frontW (kTag ++ [32]) x2) = t := ⟨_, rfl⟩
  obtain ⟨y, hy⟩ : ∃ t, guessX (frontW (kTgr ++ [32]) x3) = t := ⟨_, rfl⟩
  rw [ho, hs, hnm, hy] at hraw
  have HRAW := Lib.hid hraw
  have HO20 : Hid (o.length = 20) := by rw [← ho]; exact parsed_length _
  have HOB : Hid (∀ z ∈ o, 0 ≤ z ∧ z ≤ 255) := by rw [← ho]; exact parsed_bytes _
  have HOE := Lib.hid ho
  have HSE := Lib.hid hs
  have HNE := Lib.hid hnm
  have HYE := Lib.hid hy
  have hl2 := HLL.out 2 x2 hx2
  have hl3 := HLL.out 3 x3 hx3
  have HNMS : Hid (nm.size ≤ 2000) := by rw [← hnm, txt_size]; have := frontW_len (kTag ++ [32]) x2; show _ ≤ _; omega
  have hys := rWho_small kTgr [x3] (by show x3.length + 1 + 0 ≤ _; omega)
  rw [show (rWho kTgr [x3]).1 = y from hy] at hys
  have HYS := Lib.hid hys
  have HX0 := Lib.hid hx0
  have HX1 := Lib.hid hx1
  have HX2 := Lib.hid hx2
  have HX3 := Lib.hid hx3
  clear hraw ho hs hnm hy hx0 hx1 hx2 hx3 hl2 hl3 hys HRT
  go_upto_region 5 with fail
  generalize w1.alloc (.cells (tgA tz) 54) = w4 at *
  obtain ⟨cb, hcb⟩ : ∃ c, w1.heap.size = c := ⟨_, rfl⟩
  simp only [hcb] at HW4 HFL HSZ ⊢
  clear hcb
  have HFB : Hid (∀ W, FrR cb w4 W → Below w.heap.size w W) := fun W hW => HB4.out.trans (hW.below (Nat.le_of_lt HSZ.out) HB4.out.size)
  have HFZ : Hid (∀ W, FrR cb w4 W → W.heap[w.heap.size]? = some (.cells (tgA tz) 54 (0, 0))) := fun W hW => (hW.block _ (Array.getElem?_eq_some_iff.1 HZ4.out).1 (by have := HSZ.out; omega)).trans HZ4.out
  have hc0 := HFL.out w4 (FrR.refl _ _) 0 x0 HX0.out
  have h0n : (0 : Int) < (n : Int) := by have := HN6.out; omega
  have h1n : (1 : Int) < (n : Int) := by have := HN6.out; omega
  have h2n : (2 : Int) < (n : Int) := by have := HN6.out; omega
  have h3n : (3 : Int) < (n : Int) := by have := HN6.out; omega
  go_wp2_with fail
  refine (fObj_any x0 w4 (by have := HLL.out 0 x0 HX0.out; omega)).mono ?_
  rintro e w5 ⟨rfl, hb⟩
  have HW5 := Lib.hid (HW4.out.below hb)
  clear hb hc0 HW4 HB4 HZ4
  go_wp2_with fail
  refine (refParse_any (txt (frontW (kObj ++ [32]) x0)) w5 (by rw [txt_size]; have h1 := HLL.out 0 x0 HX0.out; have h2 := frontW_len (kObj ++ [32]) x0; omega)).mono ?_
  rintro e w6 ⟨rfl, hb⟩
  rw [HOE.out]
  generalize isHex (txt (frontW (kObj ++ [32]) x0)) = hx
  have HW6 := Lib.hid (HW5.out.below hb)
  have HTH : Hid (w6.there cb 0 (V8 o).size) := rtg_there HW6.out.co HW6.out.h20 0 _ (by rw [V8_size, HO20.out]; decide)
  have HW7 : Hid (RTg w4 cb (w6.setCells cb 0 (V8 o).toList) { tz with o := o }) := HW6.out.cells 0 (U8 o) { tz with o := o } HO20.out (tgA_obj tz tz_20 o HO20.out)
  clear hb HW5
  go_upto_block 0 with (first
    | (refine wpList_store_mid rfl 22 _ _ rfl cb 0 (V8 o) rfl rfl HTH.out (info24 o HO20.out) (V8_one o) ?_
       clear HTH HW6
       generalize w6.setCells cb 0 (V8 o).toList = w7 at *))
  go_cut [] from 8 (fun wx => RTg w4 cb wx { tz with o := o, k := ((kindUpto s 4 : Nat) : Int) })
  case first =>
    go_wp2_with fail
    go_loopw [6] (fun i wr => ∃ j : Nat, i = .int .i64 ((j + 1 : Nat) : Int) ∧ j ≤ 4 ∧ RTg w4 cb wr { tz with o := o, k := ((kindUpto s j : Nat) : Int) }) (fun i _ => 5 - (intOf i).toNat)
    case atStart => exact ⟨0, rfl, by decide, HW7.out⟩
    case round =>
      obtain ⟨j, rfl, hj, hw⟩ := hrel
      have HWr := Lib.hid hw
      have WK := Lib.hid (next_int (j + 1) (by omega))
      clear hw HW7
      by_cases hj4 : j < 4
      · have hji : ((j + 1 : Nat) : Int) ≤ 4 := by omega
        have HJ : Hid (j + 1 ≤ 4) := hj4
        have HXC := Lib.hid (HFL.out wr HWr.out.fr 1 x1 HX1.out)
        have HWD := Lib.hid (HWr.out.below ((Below.refl _ _).drew))
        obtain ⟨b, hb⟩ : ∃ b, decide (wordAt ((j + 1 : Nat) : Int) = s) = b := ⟨_, rfl⟩
        have HEQ : Hid (∀ W, (binOp .eql 9 (.string (wordAt ((j + 1 : Nat) : Int))) (.string s)).run Tryz.prog W = .ok (.bool b) W) := fun W => by
          rw [str_eql, ← hb]
          congr 2
          by_cases h : wordAt ((j + 1 : Nat) : Int) = s
          · rw [h]; simp
          · rw [decide_eq_false h]
            exact beq_eq_false_iff_ne.2 fun e => h (bytes_ext e)
        have HBD := Lib.hid hb
        clear hb hj hj4
        go_wp2_with fail
        refine wp_region_noPanic ?_
        refine wp_region_held_drew (S := fun W => W.cell? ⟨lb, 1, none⟩ = some (.string (txt x1))) (by kernel_rfl) ?_ (fun hHeld => ?_)
        · exact HXC.out
        refine wpAnyH_take (i := 0) (v := ?_) (by simp only [List.getElem?_toArray, List.getElem?_cons_zero]; rfl) (by kernel_rfl) (by kernel_rfl) (by kernel_rfl) (fun _ _ _ h => h) (Or.inl ⟨by rfl, ?_⟩) (by assumption) ?_
        rotate_left
        · intro W hSW
          go_simp
          try with_reducible rfl
        try simp only [Act.put, List.setIfInBounds_toArray, List.set_cons_zero, List.set_cons_succ]
        refine wpAnyH_take (i := 2) (v := ?_) (by simp only [List.getElem?_toArray, List.getElem?_cons_succ, List.getElem?_cons_zero]; rfl) (by kernel_rfl) (by kernel_rfl) (by kernel_rfl) (fun _ _ _ h => h) (Or.inl ⟨by rfl, ?_⟩) (by assumption) ?_
        rotate_left
        · intro W hSW
          go_simp
          try with_reducible rfl
        try simp only [Act.put, List.setIfInBounds_toArray, List.set_cons_zero, List.set_cons_succ]
        refine wpAnyH_take (i := 3) (v := ?_) (by simp only [List.getElem?_toArray, List.getElem?_cons_succ, List.getElem?_cons_zero]; rfl) (by kernel_rfl) (by kernel_rfl) (by kernel_rfl) (fun _ _ _ h => h) (Or.inl ⟨by rfl, ?_⟩) (by assumption) ?_
        rotate_left
        · intro W hSW
          go_simp
          try with_reducible rfl
        try simp only [Act.put, List.setIfInBounds_toArray, List.set_cons_zero, List.set_cons_succ]
        refine wpAnyH_take (i := 4) (by simp only [List.getElem?_toArray, List.getElem?_cons_succ, List.getElem?_cons_zero]; rfl) (by kernel_rfl) (by kernel_rfl) (by kernel_rfl) (fun _ _ _ h => h) (yieldsIf_load_str (by rfl) 9 _ rfl lb 1 rfl (txt x1) (fun W h => h) Tryz.underlying9) (by assumption) ?_
        try simp only [Act.put, List.setIfInBounds_toArray, List.set_cons_zero, List.set_cons_succ]
        refine wpAnyH_ready (rs := [1]) (by kernel_rfl) (by simp) ?_
        refine AllReadyH.cons (by simp only [List.getElem?_toArray, List.getElem?_cons_succ, List.getElem?_cons_zero]; rfl) (fun K hK => ?_) AllReadyH.nil
        go_simp
        refine (refWord_any _ _).mono ?_
        rintro e v1 ⟨rfl, rfl⟩
        go_wp2_with fail
        refine hK.out _ _ (HXC.out) (fun hHeld2 => ?_)
        clear hK K hHeld
        have hHeld := hHeld2
        clear hHeld2
        try simp only [Act.put, List.setIfInBounds_toArray, List.set_cons_zero, List.set_cons_succ]
        refine wpAnyH_ready (rs := [5]) (by kernel_rfl) (by simp) ?_
        refine AllReadyH.cons (by simp only [List.getElem?_toArray, List.getElem?_cons_succ, List.getElem?_cons_zero]; rfl) (fun K hK => ?_) AllReadyH.nil
        go_simp
        refine (fTyp_any x1 _ (by have := HLL.out 1 x1 HX1.out; omega)).mono ?_
        rintro e v2 ⟨rfl, hb⟩
        rw [HSE.out]
        have HW8 := Lib.hid (HWD.out.below hb)
        clear hb
        go_wp2_with fail
        refine hK.out _ _ (HFL.out _ HW8.out.fr 1 x1 HX1.out) (fun hHeld2 => ?_)
        clear hK K hHeld
        have hHeld := hHeld2
        clear hHeld2
        try simp only [Act.put, List.setIfInBounds_toArray, List.set_cons_zero, List.set_cons_succ]
        refine wpAnyH_take (i := 6) (by simp only [List.getElem?_toArray, List.getElem?_cons_succ, List.getElem?_cons_zero]; rfl) (by kernel_rfl) (by kernel_rfl) (by kernel_rfl) (fun _ _ _ h => h) (yieldsIf_eql (by rfl) .eql 9 _ _ _ rfl (.string (wordAt ((j + 1 : Nat) : Int))) (.string s) rfl rfl (.bool b) (guard_eq _ _ _ _) HEQ.out) (by assumption) ?_
        try simp only [Act.put, List.setIfInBounds_toArray, List.set_cons_zero, List.set_cons_succ]
        refine wpAnyH_done (by kernel_rfl) ?_ _
        refine NoPanic.normal ?_
        cases b
        · have HKN : Hid (kindUpto s (j + 1) = kindUpto s j) := by show _ = _; rw [kind_next, if_neg (of_decide_eq_false HBD.out)]
          go_wp2_with fail
          exact ⟨⟨j + 1, by first | rw [WK.out _ rfl] | rfl, HJ.out, by rw [HKN.out]; exact HW8.out⟩, by have := HJ.out; (first | rw [WK.out _ rfl] | skip); simp [intOf]; omega⟩
        · have HKN : Hid (kindUpto s (j + 1) = j + 1) := by show _ = _; rw [kind_next, if_pos (of_decide_eq_true HBD.out)]
          have hck := (TgRow.of HW8.out.co HO20.out).kind
          have hfk := frozen_of_row _ cb 20 _ _ HW8.out.co
          go_wp2_with fail
          exact ⟨⟨j + 1, by first | rw [WK.out _ rfl] | rfl, HJ.out, by rw [HKN.out]; exact HW8.out.cell 20 _ { tz with o := o, k := ((j + 1 : Nat) : Int) } HO20.out (by rw [tgA_set _ HO20.out 0]; rfl)⟩, by have := HJ.out; (first | rw [WK.out _ rfl] | skip); simp [intOf]; omega⟩
      · have hji : ¬ ((j + 1 : Nat) : Int) ≤ 4 := by omega
        have HJE : Hid (j = 4) := by show _ = _; omega
        clear hj hj4
        go_wp2_with fail
        go_meet
        have h := HWr.out
        rw [HJE.out] at h
        exact h
  case rest =>
    have HWc := Lib.hid hcut
    clear HW7 hcut
    have hc2 := HFL.out wc HWc.out.fr 2 x2 HX2.out
    go_wp2_with fail
    refine (fTag_any x2 wc (by have := HLL.out 2 x2 HX2.out; omega)).mono ?_
    rintro e w8 ⟨rfl, hb⟩
    rw [HNE.out]
    have HW8 := Lib.hid (HWc.out.below hb)
    have hcn := (TgRow.of HW8.out.co HO20.out).name
    have hfn := frozen_of_row _ cb 21 _ _ HW8.out.co
    have HW9 : Hid (RTg w4 cb (w8.setCell ⟨cb, 21, none⟩ (.string nm)) { tz with o := o, k := ((kindUpto s 4 : Nat) : Int), n := nm }) := HW8.out.cell 21 _ _ HO20.out (by rw [tgA_set _ HO20.out 1]; rfl)
    clear hb hc2 HWc
    go_upto_region 12 with fail
    clear hcn hfn HW8
    generalize w8.setCell ⟨cb, 21, none⟩ (.string nm) = w9 at *
    have hc3 := HFL.out w9 HW9.out.fr 3 x3 HX3.out
    go_wp2_with fail
    refine (fTgr_any x3 w9 (by have := HLL.out 3 x3 HX3.out; omega)).mono ?_
    rintro e w10 ⟨rfl, hb⟩
    have HW10 := Lib.hid (HW9.out.below hb)
    clear hb hc3 HW9
    go_wp2_with fail
    refine (guess_any (frontW (kTgr ++ [32]) x3) w10 (by have h1 := HLL.out 3 x3 HX3.out; have h2 := frontW_len (kTgr ++ [32]) x3; omega)).mono ?_
    rintro e w11 ⟨rfl, hb⟩
    rw [HYE.out]
    have HW11 := Lib.hid (HW10.out.below hb)
    have HTH : Hid (w11.there cb 22 (whoA y).size) := rtg_there HW11.out.co HW11.out.h20 22 _ (by show 22 + 4 ≤ 27; decide)
    have HW12 : Hid (RTg w4 cb (w11.setCells cb 22 (whoA y).toList) { o := o, k := ((kindUpto s 4 : Nat) : Int), n := nm, t := y, m := tz.m }) := HW11.out.cells 22 (whoL y) _ HO20.out (tgA_tagger _ HO20.out y)
    clear hb HW10
    go_upto_block 2 with (first
      | (refine wpList_store_mid rfl 25 _ _ rfl cb 22 (whoA y) rfl rfl HTH.out (info_rwho y) (who_one y) ?_
         clear HTH HW11
         generalize w11.setCells cb 22 (whoA y).toList = w12 at *))
    go_cut [] from 8 (fun wx => RTg w4 cb wx { o := o, k := ((kindUpto s 4 : Nat) : Int), n := nm, t := y, m := txt (joinL (l.drop 5)) })
    case first =>
      go_wp2_with fail
      go_loopw [7] (fun i wr => ∃ (j t : Nat), i = .int .i64 (j : Int) ∧ j = 5 + t ∧ j ≤ n ∧ RTg w4 cb wr { o := o, k := ((kindUpto s 4 : Nat) : Int), n := nm, t := y, m := txt (joinL ((l.drop 5).take t)) }) (fun i _ => n - (intOf i).toNat)
      case atStart => exact ⟨5, 0, rfl, rfl, by have := HN6.out; omega, HW12.out⟩
      case round =>
        obtain ⟨j, t, rfl, hj, hjl, hw⟩ := hrel
        have HJ := Lib.hid hj
        have HWr := Lib.hid hw
        have WK := Lib.hid (next_int j (by have := HNB.out; omega))
        have hmsg := (TgRow.of hw.co HO20.out).msg
        have hfm := frozen_of_row _ cb 26 _ _ hw.co
        have HML : Hid ((joinL ((l.drop 5).take t)).length ≤ 2001) := by
          have h1 := join_len ((l.drop 5).take t)
          have h2 := sum_take (l.drop 5) t
          have h3 := sum_drop l 5
          have h4 := HSL.out
          show _ ≤ _; omega
        clear hw HW12
        by_cases hjn : j < n
        · have hji : (j : Int) < (n : Int) := by omega
          have HKN : Hid (j + 1 ≤ n) := hjn
          obtain ⟨x, hx⟩ : ∃ x, l[j]? = some x := ⟨_, List.getElem?_eq_getElem (by rw [HN.out]; exact hjn)⟩
          have HX := Lib.hid hx
          have HXL := Lib.hid (HLL.out j x hx)
          have HXC := Lib.hid (HFL.out wr HWr.out.fr j x hx)
          have hdx : (l.drop 5)[t]? = some x := by rw [List.getElem?_drop, ← hj]; exact hx
          have HJ2 : Hid (j + 1 = 5 + (t + 1)) := by show _ = _; omega
          by_cases ht : t = 0
          · subst ht
            have hng : ¬ (5 : Int) < (j : Int) := by omega
            have HM1 : Hid (joinL ((l.drop 5).take (0 + 1)) = x) := join_first hdx
            have HA1 : Hid (∀ W, (binOp .add 9 (.string (txt [])) (.string (txt x))).run Tryz.prog W = .ok (.string (txt x)) W) := fun W => add_txt _ _ _ (by rw [txt_list, txt_list]; rfl) (by rw [txt_size, txt_size]; have := HXL.out; simp only [List.length_nil]; omega) W
            have hms2 : wr.cell? ⟨cb, 26, none⟩ = some (.string (txt [])) := hmsg
            have HWD := Lib.hid (HWr.out.below ((Below.refl _ _).drew))
            have HW12 : Hid (RTg w4 cb (wr.drew.setCell ⟨cb, 26, none⟩ (.string (txt x))) { o := o, k := ((kindUpto s 4 : Nat) : Int), n := nm, t := y, m := txt (joinL ((l.drop 5).take (0 + 1))) }) := by
              show RTg _ _ _ _
              rw [HM1.out]
              exact HWD.out.cell 26 _ _ HO20.out (by rw [tgA_set _ HO20.out 6]; rfl)
            clear hmsg hx hdx hjn hj hjl
            go_wp2_with fail
            refine wp_region_noPanic ?_
            refine wp_region_held_drew (S := fun W => W.cell? ⟨lb, j, none⟩ = some (.string (txt x))) (by kernel_rfl) ?_ (fun hHeld => ?_)
            · exact HXC.out
            refine wpAnyH_take (i := 0) (v := ?_) (by simp only [List.getElem?_toArray, List.getElem?_cons_zero]; rfl) (by kernel_rfl) (by kernel_rfl) (by kernel_rfl) (fun _ _ _ h => h) (Or.inl ⟨by rfl, ?_⟩) (by assumption) ?_
            rotate_left
            · intro W hSW
              go_simp
              try with_reducible rfl
            try simp only [Act.put, List.setIfInBounds_toArray, List.set_cons_zero, List.set_cons_succ]
            refine wpAnyH_take (i := 2) (v := ?_) (by simp only [List.getElem?_toArray, List.getElem?_cons_succ, List.getElem?_cons_zero]; rfl) (by kernel_rfl) (by kernel_rfl) (by kernel_rfl) (fun _ _ _ h => h) (Or.inl ⟨by rfl, ?_⟩) (by assumption) ?_
            rotate_left
            · intro W hSW
              go_simp
              try with_reducible rfl
            try simp only [Act.put, List.setIfInBounds_toArray, List.set_cons_zero, List.set_cons_succ]
            refine wpAnyH_take (i := 3) (v := ?_) (by simp only [List.getElem?_toArray, List.getElem?_cons_succ, List.getElem?_cons_zero]; rfl) (by kernel_rfl) (by kernel_rfl) (by kernel_rfl) (fun _ _ _ h => h) (Or.inl ⟨by rfl, ?_⟩) (by assumption) ?_
            rotate_left
            · intro W hSW
              go_simp
              try with_reducible rfl
            try simp only [Act.put, List.setIfInBounds_toArray, List.set_cons_zero, List.set_cons_succ]
            refine wpAnyH_take (i := 4) (v := ?_) (by simp only [List.getElem?_toArray, List.getElem?_cons_succ, List.getElem?_cons_zero]; rfl) (by kernel_rfl) (by kernel_rfl) (by kernel_rfl) (fun _ _ _ h => h) (Or.inl ⟨by rfl, ?_⟩) (by assumption) ?_
            rotate_left
            · intro W hSW
              go_simp
              try with_reducible rfl
            try simp only [Act.put, List.setIfInBounds_toArray, List.set_cons_zero, List.set_cons_succ]
            refine wpAnyH_take (i := 5) (by simp only [List.getElem?_toArray, List.getElem?_cons_succ, List.getElem?_cons_zero]; rfl) (by kernel_rfl) (by kernel_rfl) (by kernel_rfl) (fun _ _ _ h => h) (yieldsIf_load_str (by rfl) 9 _ rfl lb j rfl (txt x) (fun W h => h) Tryz.underlying9) (by assumption) ?_
            try simp only [Act.put, List.setIfInBounds_toArray, List.set_cons_zero, List.set_cons_succ]
            refine wpAnyH_ready (rs := [1]) (by kernel_rfl) (by simp) ?_
            refine AllReadyH.cons (by simp only [List.getElem?_toArray, List.getElem?_cons_succ, List.getElem?_cons_zero]; rfl) (fun K hK => ?_) AllReadyH.nil
            go_simp
            refine hK.out _ _ (HXC.out) (fun hHeld2 => ?_)
            clear hK K hHeld
            have hHeld := hHeld2
            clear hHeld2
            try simp only [Act.put, List.setIfInBounds_toArray, List.set_cons_zero, List.set_cons_succ]
            refine wpAnyH_take (i := 6) (by simp only [List.getElem?_toArray, List.getElem?_cons_succ, List.getElem?_cons_zero]; rfl) (by kernel_rfl) (by kernel_rfl) (by kernel_rfl) (fun _ _ _ h => h) (yieldsIf_eql (by rfl) .add 9 _ _ _ rfl (.string (txt [])) (.string (txt x)) rfl rfl (.string (txt x)) (guard_addn _ _ _ _) HA1.out) (by assumption) ?_
            try simp only [Act.put, List.setIfInBounds_toArray, List.set_cons_zero, List.set_cons_succ]
            refine wpAnyH_take (i := 7) (v := ?_) (by simp only [List.getElem?_toArray, List.getElem?_cons_succ, List.getElem?_cons_zero]; rfl) (by kernel_rfl) (by kernel_rfl) (by kernel_rfl) (fun _ _ _ h => h) (Or.inl ⟨by rfl, ?_⟩) (by assumption) ?_
            rotate_left
            · intro W hSW
              go_simp
              try with_reducible rfl
            try simp only [Act.put, List.setIfInBounds_toArray, List.set_cons_zero, List.set_cons_succ]
            refine wpAnyH_ready (rs := [8]) (by kernel_rfl) (by simp) ?_
            refine AllReadyH.cons (by simp only [List.getElem?_toArray, List.getElem?_cons_succ, List.getElem?_cons_zero]; rfl) (fun K hK => ?_) AllReadyH.nil
            go_simp
            refine hK.out _ _ (HFL.out _ HW12.out.fr j x HX.out) (fun hHeld2 => ?_)
            clear hK K hHeld
            have hHeld := hHeld2
            clear hHeld2
            try simp only [Act.put, List.setIfInBounds_toArray, List.set_cons_zero, List.set_cons_succ]
            refine wpAnyH_done (by kernel_rfl) ?_ _
            refine NoPanic.normal ?_
            go_wp2_with fail
            exact ⟨⟨j + 1, 0 + 1, by first | rw [WK.out _ rfl] | rfl, HJ2.out, HKN.out, HW12.out⟩, by have := HKN.out; (first | rw [WK.out _ rfl] | skip); simp [intOf]; omega⟩
          · have hgt : (5 : Int) < (j : Int) := by omega
            obtain ⟨M, hM⟩ : ∃ m, joinL ((l.drop 5).take t) = m := ⟨_, rfl⟩
            have HM1 : Hid (joinL ((l.drop 5).take (t + 1)) = M ++ [10] ++ x) := by show _ = _; rw [join_step hdx ht, hM]
            rw [hM] at hmsg HWr HML
            obtain ⟨T1, hT1⟩ : ∃ m, M ++ [10] = m := ⟨_, rfl⟩
            obtain ⟨T2, hT2⟩ : ∃ m, T1 ++ x = m := ⟨_, rfl⟩
            rw [hT1, hT2] at HM1
            have l1 : T1.length = M.length + 1 := by rw [← hT1, List.length_append]; rfl
            have HA0 : Hid (∀ W, (binOp .add 9 (.string (txt M)) (.string ⟨#[10]⟩)).run Tryz.prog W = .ok (.string (txt T1)) W) := fun W => add_txt _ _ _ (by rw [txt_list]; exact hT1) (by rw [txt_size]; have := HML.out; show _ + 1 ≤ _; omega) W
            have HA1 : Hid (∀ W, (binOp .add 9 (.string (txt T1)) (.string (txt x))).run Tryz.prog W = .ok (.string (txt T2)) W) := fun W => add_txt _ _ _ (by rw [txt_list, txt_list]; exact hT2) (by rw [txt_size, txt_size]; have := HXL.out; have := HML.out; omega) W
            have HWy : Hid (RTg w4 cb (wr.setCell ⟨cb, 26, none⟩ (.string (txt T1))) { o := o, k := ((kindUpto s 4 : Nat) : Int), n := nm, t := y, m := txt T1 }) := HWr.out.cell 26 _ _ HO20.out (by rw [tgA_set _ HO20.out 6]; rfl)
            clear hx hdx hjn hj hjl HXC hM hT1 hT2 l1
            go_upto_region 18 with (first
              | refine wpList_eql (by rfl) .add 9 _ _ _ rfl (.string (txt M)) (.string ⟨#[10]⟩) rfl rfl (.string (txt T1)) (guard_addn _ _ _ _) HA0.out ?_)
            clear hmsg hfm
            generalize wr.setCell ⟨cb, 26, none⟩ (.string (txt T1)) = wy at *
            have hms2 := (TgRow.of HWy.out.co HO20.out).msg
            have hfm := frozen_of_row _ cb 26 _ _ HWy.out.co
            have HXC := Lib.hid (HFL.out wy HWy.out.fr j x HX.out)
            have HWD := Lib.hid (HWy.out.below ((Below.refl _ _).drew))
            have HW12 : Hid (RTg w4 cb (wy.drew.setCell ⟨cb, 26, none⟩ (.string (txt T2))) { o := o, k := ((kindUpto s 4 : Nat) : Int), n := nm, t := y, m := txt (joinL ((l.drop 5).take (t + 1))) }) := by
              show RTg _ _ _ _
              rw [HM1.out]
              exact HWD.out.cell 26 _ _ HO20.out (by rw [tgA_set _ HO20.out 6]; rfl)
            go_wp2_with fail
            refine wp_region_noPanic ?_
            refine wp_region_held_drew (S := fun W => W.cell? ⟨lb, j, none⟩ = some (.string (txt x))) (by kernel_rfl) ?_ (fun hHeld => ?_)
            · exact HXC.out
            refine wpAnyH_take (i := 0) (v := ?_) (by simp only [List.getElem?_toArray, List.getElem?_cons_zero]; rfl) (by kernel_rfl) (by kernel_rfl) (by kernel_rfl) (fun _ _ _ h => h) (Or.inl ⟨by rfl, ?_⟩) (by assumption) ?_
            rotate_left
            · intro W hSW
              go_simp
              try with_reducible rfl
            try simp only [Act.put, List.setIfInBounds_toArray, List.set_cons_zero, List.set_cons_succ]
            refine wpAnyH_take (i := 2) (v := ?_) (by simp only [List.getElem?_toArray, List.getElem?_cons_succ, List.getElem?_cons_zero]; rfl) (by kernel_rfl) (by kernel_rfl) (by kernel_rfl) (fun _ _ _ h => h) (Or.inl ⟨by rfl, ?_⟩) (by assumption) ?_
            rotate_left
            · intro W hSW
              go_simp
              try with_reducible rfl
            try simp only [Act.put, List.setIfInBounds_toArray, List.set_cons_zero, List.set_cons_succ]
            refine wpAnyH_take (i := 3) (v := ?_) (by simp only [List.getElem?_toArray, List.getElem?_cons_succ, List.getElem?_cons_zero]; rfl) (by kernel_rfl) (by kernel_rfl) (by kernel_rfl) (fun _ _ _ h => h) (Or.inl ⟨by rfl, ?_⟩) (by assumption) ?_
            rotate_left
            · intro W hSW
              go_simp
              try with_reducible rfl
            try simp only [Act.put, List.setIfInBounds_toArray, List.set_cons_zero, List.set_cons_succ]
            refine wpAnyH_take (i := 4) (v := ?_) (by simp only [List.getElem?_toArray, List.getElem?_cons_succ, List.getElem?_cons_zero]; rfl) (by kernel_rfl) (by kernel_rfl) (by kernel_rfl) (fun _ _ _ h => h) (Or.inl ⟨by rfl, ?_⟩) (by assumption) ?_
            rotate_left
            · intro W hSW
              go_simp
              try with_reducible rfl
            try simp only [Act.put, List.setIfInBounds_toArray, List.set_cons_zero, List.set_cons_succ]
            refine wpAnyH_take (i := 5) (by simp only [List.getElem?_toArray, List.getElem?_cons_succ, List.getElem?_cons_zero]; rfl) (by kernel_rfl) (by kernel_rfl) (by kernel_rfl) (fun _ _ _ h => h) (yieldsIf_load_str (by rfl) 9 _ rfl lb j rfl (txt x) (fun W h => h) Tryz.underlying9) (by assumption) ?_
            try simp only [Act.put, List.setIfInBounds_toArray, List.set_cons_zero, List.set_cons_succ]
            refine wpAnyH_ready (rs := [1]) (by kernel_rfl) (by simp) ?_
            refine AllReadyH.cons (by simp only [List.getElem?_toArray, List.getElem?_cons_succ, List.getElem?_cons_zero]; rfl) (fun K hK => ?_) AllReadyH.nil
            go_simp
            refine hK.out _ _ (HXC.out) (fun hHeld2 => ?_)
            clear hK K hHeld
            have hHeld := hHeld2
            clear hHeld2
            try simp only [Act.put, List.setIfInBounds_toArray, List.set_cons_zero, List.set_cons_succ]
            refine wpAnyH_take (i := 6) (by simp only [List.getElem?_toArray, List.getElem?_cons_succ, List.getElem?_cons_zero]; rfl) (by kernel_rfl) (by kernel_rfl) (by kernel_rfl) (fun _ _ _ h => h) (yieldsIf_eql (by rfl) .add 9 _ _ _ rfl (.string (txt T1)) (.string (txt x)) rfl rfl (.string (txt T2)) (guard_addn _ _ _ _) HA1.out) (by assumption) ?_
            try simp only [Act.put, List.setIfInBounds_toArray, List.set_cons_zero, List.set_cons_succ]
            refine wpAnyH_take (i := 7) (v := ?_) (by simp only [List.getElem?_toArray, List.getElem?_cons_succ, List.getElem?_cons_zero]; rfl) (by kernel_rfl) (by kernel_rfl) (by kernel_rfl) (fun _ _ _ h => h) (Or.inl ⟨by rfl, ?_⟩) (by assumption) ?_
            rotate_left
            · intro W hSW
              go_simp
              try with_reducible rfl
            try simp only [Act.put, List.setIfInBounds_toArray, List.set_cons_zero, List.set_cons_succ]
            refine wpAnyH_ready (rs := [8]) (by kernel_rfl) (by simp) ?_
            refine AllReadyH.cons (by simp only [List.getElem?_toArray, List.getElem?_cons_succ, List.getElem?_cons_zero]; rfl) (fun K hK => ?_) AllReadyH.nil
            go_simp
            refine hK.out _ _ (HFL.out _ HW12.out.fr j x HX.out) (fun hHeld2 => ?_)
            clear hK K hHeld
            have hHeld := hHeld2
            clear hHeld2
            try simp only [Act.put, List.setIfInBounds_toArray, List.set_cons_zero, List.set_cons_succ]
            refine wpAnyH_done (by kernel_rfl) ?_ _
            refine NoPanic.normal ?_
            go_wp2_with fail
            exact ⟨⟨j + 1, t + 1, by first | rw [WK.out _ rfl] | rfl, HJ2.out, HKN.out, HW12.out⟩, by have := HKN.out; (first | rw [WK.out _ rfl] | skip); simp [intOf]; omega⟩
        · have hji : ¬ (j : Int) < (n : Int) := by omega
          have HTE : Hid (((l.drop 5).take t) = l.drop 5) := List.take_of_length_le (by rw [List.length_drop, HN.out]; omega)
          clear hjn hj hjl hmsg hfm
          go_wp2_with fail
          go_meet
          rw [← HTE.out]
          exact HWr.out
    case rest =>
      have HWf := Lib.hid hcut
      clear hcut HW12
      obtain ⟨R, hR⟩ : ∃ R : TX, R = { o := o, k := ((kindUpto s 4 : Nat) : Int), n := nm, t := y, m := txt (joinL (l.drop 5)) } := ⟨_, rfl⟩
      have HPC : Hid (parseT L = if 6 ≤ n ∧ tagB R = true ∧ printT R = L then some R else none) := by
        have h := HRP.out
        rw [HRAW.out] at h
        rw [hR]
        exact h
      rw [← hR] at HWf
      have HGD : Hid (TgGood R) := by rw [hR]; exact ⟨HO20.out, HOB.out⟩
      have HWS : Hid (WhoSmall R.t) := by rw [hR]; exact HYS.out.1
      have HNS : Hid (R.n.size ≤ 1000000) := by have := HNMS.out; rw [hR]; show nm.size ≤ _; omega
      have HPL : Hid ((printT R).length ≤ 1000000) := by
        have h1 := hexOf_length R.o
        rw [HGD.out.1] at h1
        have h2 := word_len R.k
        have h3 : R.n.data.toList.length ≤ 2000 := by have := HNMS.out; rw [← Lib.size_eq, hR]; exact this
        have h4 : (whoT R.t).length ≤ 10000 := by rw [hR]; exact HYS.out.2
        have h5 : R.m.data.toList.length ≤ 2001 := by
          rw [hR]
          show (txt (joinL (l.drop 5))).data.toList.length ≤ _
          rw [txt_list]
          have h1 := join_len (l.drop 5)
          have h3 := sum_drop l 5
          have h4 := HSL.out
          omega
        show _ ≤ _
        unfold printT
        simp only [List.length_append, List.length_cons, List.length_nil]
        have e1 : kObj.length = 6 := rfl
        have e2 : kTyp.length = 4 := rfl
        have e3 : kTag.length = 3 := rfl
        have e4 : kTgr.length = 6 := rfl
        omega
      clear hR HRP HRAW HYS HNMS
      have H20 := Lib.hid HGD.out.1
      have HIC : Hid ((Tryz.prog.info? 54).map (·.size) = some (tgL R).length) := info_rtag R H20.out
      have HICA : Hid ((Tryz.prog.info? 54).map (·.size) = some (tgA R).size) := info_rtagA R H20.out
      have HSCZ : Hid ((tgA tz).size = (tgA R).size) := by show _ = _; rw [tgA_size _ tz_20, tgA_size R H20.out]
      have hrt := rrighttag_any R wc H20.out HWS.out HNS.out
      obtain ⟨v, hv⟩ : ∃ v, tagB R = v := ⟨_, rfl⟩
      rw [hv] at hrt HPC
      have HRT := Lib.hid hrt
      clear hrt hv
      go_wp2_with (first
        | (refine wpList_load_mid_g rfl 54 _ rfl cb 0 rfl (tgL R) _ (TgRow.of HWf.out.co H20.out).cells Tryz.underlying54 rfl HIC.out ?_))
      refine HRT.out.mono ?_
      rintro e w13 ⟨rfl, hb⟩
      have HWG := Lib.hid (HWf.out.below hb)
      clear hb HWf HRT
      cases v
      · have HPN : Hid (parseT L = none) := by show _ = _; rw [HPC.out, if_neg (fun h => by have := h.2; simp at this)]
        have HZZ := Lib.hid (HFZ.out _ HWG.out.fr)
        go_wp2_with (first
          | refine wpList_buildQ rfl 54 _ rfl #[] (by rfl) _ build_rtagz ?_
          | refine wpList_store_row rfl 54 _ _ rfl w.heap.size (tgA tz) rfl rfl 54 (tgA tz) HZZ.out HICZ.out rfl (tgA_one tz) ?_)
        refine bodyPost_ret (results_row_tmp Tryz.results18 _ _ w.heap.size 54 (tgA tz) (0, 0) _ rfl (setRow_heap _ _ _ _ _ _ HZZ.out) Tryz.underlying54 rfl HICZ.out) rfl ⟨?_, ?_⟩
        · rw [HPN.out]; exact rfl
        · exact below_setRow (HFB.out _ HWG.out.fr) (Nat.le_refl _) _
      · have HPR := Lib.hid (rprinttag_any R w13 HGD.out HWS.out (HE.out.below (HFB.out _ HWG.out.fr)) HPL.out)
        obtain ⟨u, hu⟩ : ∃ u, (printT R == L) = u := ⟨_, rfl⟩
        have HNE2 : Hid (∀ W, (binOp .neq 9 (.string (txt (printT R))) (.string (txt L))).run Tryz.prog W = .ok (.bool (!u)) W) := fun W => by rw [str_neq, txt_list, txt_list, hu]
        go_wp2_with (first
          | (refine wpList_load_mid_g rfl 54 _ rfl cb 0 rfl (tgL R) _ (TgRow.of HWG.out.co H20.out).cells Tryz.underlying54 rfl HIC.out ?_))
        refine HPR.out.mono ?_
        rintro e w14 ⟨rfl, hb⟩
        have HWH := Lib.hid (HWG.out.below hb)
        have HZZ := Lib.hid (HFZ.out _ HWH.out.fr)
        clear hb HWG HPR
        cases u
        · have HPN : Hid (parseT L = none) := by show _ = _; rw [HPC.out, if_neg (fun h => by rw [h.2.2] at hu; simp at hu)]
          clear hu
          go_wp2_with (first
            | refine wpList_eql (by rfl) .neq 9 _ _ _ rfl (.string (txt (printT R))) (.string (txt L)) rfl rfl (.bool true) (guard_strn _ _ _ _) HNE2.out ?_
            | refine wpList_buildQ rfl 54 _ rfl #[] (by rfl) _ build_rtagz ?_
            | refine wpList_store_row rfl 54 _ _ rfl w.heap.size (tgA tz) rfl rfl 54 (tgA tz) HZZ.out HICZ.out rfl (tgA_one tz) ?_)
          refine bodyPost_ret (results_row_tmp Tryz.results18 _ _ w.heap.size 54 (tgA tz) (0, 0) _ rfl (setRow_heap _ _ _ _ _ _ HZZ.out) Tryz.underlying54 rfl HICZ.out) rfl ⟨?_, ?_⟩
          · rw [HPN.out]; exact rfl
          · exact below_setRow (HFB.out _ HWH.out.fr) (Nat.le_refl _) _
        · have HPN : Hid (parseT L = some R) := by
            have h6 := HN6.out
            show _ = _
            rw [HPC.out, if_pos (by simp at hu; simp [hu, h6])]
          clear hu
          go_wp2_with (first
            | refine wpList_eql (by rfl) .neq 9 _ _ _ rfl (.string (txt (printT R))) (.string (txt L)) rfl rfl (.bool false) (guard_strn _ _ _ _) HNE2.out ?_
            | (refine wpList_load_mid_g rfl 54 _ rfl cb 0 rfl (tgL R) _ (TgRow.of HWH.out.co H20.out).cells Tryz.underlying54 rfl HIC.out ?_)
            | refine wpList_store_row rfl 54 _ _ rfl w.heap.size (tgA R) rfl rfl 54 (tgA tz) HZZ.out HICA.out HSCZ.out (tgA_one R) ?_)
          refine bodyPost_ret (results_row_tmp Tryz.results18 _ _ w.heap.size 54 (tgA R) (0, 0) _ rfl (setRow_heap _ _ _ _ _ _ HZZ.out) Tryz.underlying54 rfl HICA.out) rfl ⟨?_, ?_⟩
          · rw [HPN.out]; exact rfl
          · exact below_setRow (HFB.out _ HWH.out.fr) (Nat.le_refl _) _
end Go.Proofs.YtindmggmblmmcaaGreatDoor
