/- marks.Parse: the walk. -/
import Derived.Test.YtlhdjbnilfbaoaaMkPrint
namespace Go.Proofs.Ytlhdjbnilfbaoaa
open Go.RowKit Plain
set_option linter.unusedVariables false
set_option linter.unusedSimpArgs false
structure Env (w : World) : Prop where
  most : ∃ m, w.cell? ⟨0, 0, none⟩ = some (.int .i64 m)
theorem Env.below {w w' : World} (h : Env w) (hb : Below w.heap.size w w') : Env w' := by
  obtain ⟨m, hm⟩ := h.most
  exact ⟨m, (hb.cell (p := ⟨0, 0, none⟩) (World.block_lt_of_cell? w ⟨0, 0, none⟩ hm)).trans hm⟩
theorem below_drewN' {B : Nat} {a w : World} (h : Below B a w) (n : Nat) : Below B a (w.drewN n) := h.trans ⟨rfl, rfl, rfl, Nat.le_refl _, fun _ _ => rfl⟩
theorem cut_any (l : List UInt8) (c : UInt8) (w : World) (hE : Env w) (hs : l.length ≤ 1000000000) :
    Calls Try.prog 18 #[.string (txt l), .string ⟨#[c]⟩] w fun e w' => e = .returned (.tuple #[.string (txt (Lib.cut l [c]).1), .string (txt (Lib.cut l [c]).2.1), .bool (Lib.cut l [c]).2.2]) ∧ Below w.heap.size w w' := by
  obtain ⟨m, hm⟩ := hE.most
  refine (Try.strings_Cut (txt l) ⟨#[c]⟩ m w (by rw [txt_size]; omega) hm).mono ?_
  rintro e w' ⟨rfl, q, rfl⟩
  refine ⟨?_, below_drewN' (Below.refl _ _) q⟩
  rw [txt_list]
  rfl
theorem guard_strn (x y : Operand) (s t : ByteArray) (W : World) : (eqGuard .neq 9 x y (.string s) (.string t)).run Try.prog W = .ok () W := by
  simp [eqGuard]
theorem wpList_eql {P : Program} {w : World} {ops : Array Oper} {rest : List Oper} {o : Oper} {a : Act} {Q : Exit → Act → World → Prop} (hw : Region.wanted o (yielded ops a.tmps) = true) (b : BinOp) (ty : TypeId) (x y : Operand) (tz : TypeId) (ho : o.op = .binOp b ty x y tz)
    (u1 u2 : Value) (h1 : a.eval x = u1) (h2 : a.eval y = u2) (v : Value) (hg : ∀ W, (eqGuard b ty x y u1 u2).run P W = .ok () W) (hr : ∀ W, (binOp b ty u1 u2).run P W = .ok v W) (h : wpList P ops Q rest (a.put o.dst v) w) : wpList P ops Q (o :: rest) a w := by
  refine wpList_step ?_
  intro K hK
  rw [if_pos hw]
  unfold Oper.wp execOp
  simp only [ho, h1, h2, Sem.run_bind, hg, hr, Result.andThen_ok]
  exact hK _ _ h
theorem neq_empty (l : List UInt8) (W : World) : (binOp .neq 9 (.string (txt l)) (.string ⟨#[]⟩)).run Try.prog W = .ok (.bool (!l.isEmpty)) W := by
  rw [binOp_string_neq]
  have : ((txt l).toList == (⟨#[]⟩ : ByteArray).toList) = l.isEmpty := by
    rw [Lib.toList_data, Lib.toList_data, txt_list]
    cases l <;> rfl
  rw [this]
  rfl
def MkParse (base : Nat) (e : Ending) (w' : World) : Option (List (List Int)) → Prop
  | none => e = .returned (.tuple #[.slice none 0 0, .int .i64 4])
  | some ps => if rightP ps = true then ∃ a c, e = .returned (.tuple #[.slice a ps.length c, .int .i64 0]) ∧ OwnP 46 w' base (.slice a ps.length c) ps
    else e = .returned (.tuple #[.slice none 0 0, .int .i64 9])
theorem MkParse.clash {base : Nat} {w' : World} {ps : List (List Int)} (h : rightP ps = false) : MkParse base (.returned (.tuple #[.slice none 0 0, .int .i64 9])) w' (some ps) := by
  show if rightP ps = true then _ else _
  rw [if_neg (by rw [h]; decide)]
theorem MkParse.good {base m : Nat} {w' : World} {ps : List (List Int)} {a : Option Addr} {c : Nat} (h : rightP ps = true) (hm : ps.length = m) (ho : OwnP 46 w' base (.slice a ps.length c) ps) : MkParse base (.returned (.tuple #[.slice a m c, .int .i64 0])) w' (some ps) := by
  subst hm
  show if rightP ps = true then _ else _
  rw [if_pos h]
  exact ⟨a, c, rfl, ho⟩
theorem map_one (a : Act) (x : Operand) (v : Value) (h : a.eval x = v) : (#[(0, x)] : Array (Nat × Operand)).map (fun (i, x) => (i, a.eval x)) = #[(0, v)] := by simp [h]
def strLen : Value → Nat
  | .string s => s.size
  | _ => 0
theorem own_shape {e : TypeId} {w : World} {base : Nat} {v : Value} {ps : List (List Int)} (h : OwnP e w base v ps) : ∃ a c, v = .slice a ps.length c := by
  obtain ⟨a, c, h1, -⟩ := h.at
  exact ⟨a, c, h1⟩
theorem off_of {w w' : World} {base : Nat} {v : Value} {ps : List (List Int)} {e : TypeId} (h : OwnP e w base v ps) (hb : base ≤ w.heap.size) (hg : w.grownBy w' v.ownBlock) : Below base w w' :=
  (Below.refl _ _).grown hg hb fun k hk => (h.lt hk).1
set_option maxRecDepth 100000 in
set_option maxHeartbeats 32000000 in
theorem mparse_any (a : Option Addr) (n c : Nat) (xs : List Int) (w : World) (hx : Bytes w a n xs) (hE : Env w) (hn : n ≤ 10000000) :
    Calls Try.prog 9 #[.slice a n c] w fun e w' => MkParse w.heap.size e w' (pairsL (strOfNums xs).data.toList) ∧ Below w.heap.size w w' := by
  have htx := text_run w a n c xs hx
  have HE := Lib.hid hE
  have hl0 : (strOfNums xs).data.toList.length ≤ 10000000 := by rw [strOfNums_data, List.length_map]; have := hx.1; omega
  rw [← txt_of (strOfNums xs)] at htx
  generalize (strOfNums xs).data.toList = L0 at *
  have HL0 := Lib.hid hl0
  have hzi := zero_id
  clear hx hE hn hl0
  go_enter Try.func9, Try.ntmps9
  go_wp2_with fail
  clear htx
  go_loopw [4, 5] (fun l r wr => ∃ (acc : List (List Int)) (L : List UInt8), OwnP 46 wr w.heap.size l acc ∧ r = .string (txt L) ∧ pairsL L0 = (pairsL L).map (acc ++ ·) ∧ 82 * acc.length + L.length = L0.length ∧ Below w.heap.size w wr) (fun _ r _ => strLen r)
  case atStart => exact ⟨[], L0, OwnP.nil _ _ _, rfl, by (cases pairsL L0 with | none => rfl | some x => rfl), by show 82 * 0 + _ = _; omega, Below.refl _ _⟩
  case round =>
    obtain ⟨acc, L, hown, rfl, hpr, hsz, hb⟩ := hrel
    obtain ⟨la, lc, rfl⟩ := own_shape hown
    have HO := Lib.hid hown
    have HPR := Lib.hid hpr
    have HSZ := Lib.hid hsz
    have HBW := Lib.hid hb
    clear hown hpr hsz hb
    have hne := neq_empty L
    by_cases hL : L = []
    · subst hL
      have hpr := HPR.out
      rw [pairs_nil, Option.map_some, List.append_nil] at hpr
      have HPR2 := Lib.hid hpr
      clear hpr HPR
      have hacc : acc.length ≤ 1000000 := by have h1 := HSZ.out; have h2 := HL0.out; simp at h1; omega
      have hgood := (pairs_good L0.length (Nat.le_refl _) HPR2.out).1
      obtain ⟨a9, c9, e9, hat, -, -⟩ := HO.out.at
      simp only [Value.slice.injEq] at e9
      obtain ⟨rfl, -, rfl⟩ := e9
      have HRT := Lib.hid (mright_any la lc acc wr hat hacc (fun p hp => (hgood p hp).2))
      obtain ⟨m, hm⟩ : ∃ m, acc.length = m := ⟨_, rfl⟩
      rw [hm] at HRT HO ⊢
      have HM := Lib.hid hm
      clear hacc hgood hat hm HSZ
      go_wp2_with (first
        | refine wpList_eql rfl .neq 9 _ _ _ rfl (.string (txt [])) (.string ⟨#[]⟩) rfl rfl (.bool false) (guard_strn _ _ _ _) hne ?_)
      refine HRT.out.mono ?_
      rintro e w3 ⟨rfl, hb⟩
      have HB3 := Lib.hid (HBW.out.trans (hb.mono HBW.out.size))
      have HO3 := Lib.hid (OwnP.below (ps := acc) (by have := HO.out; rw [← HM.out] at this; exact this) hb)
      clear hb hne HRT HO
      cases hrp : rightP acc
      · have HP : Hid (MkParse w.heap.size (.returned (.tuple #[.slice none 0 0, .int .i64 9])) w3 (pairsL L0)) := by
          show MkParse _ _ _ _
          rw [HPR2.out]
          exact MkParse.clash hrp
        clear hrp
        go_wp2_with fail
        (try simp only [Exit.inBlock, Exit.then])
        go_ret2
        exact ⟨HP.out, HB3.out⟩
      · have HP : Hid (MkParse w.heap.size (.returned (.tuple #[.slice la m lc, .int .i64 0])) w3 (pairsL L0)) := by
          show MkParse _ _ _ _
          rw [HPR2.out]
          exact MkParse.good hrp HM.out HO3.out
        clear hrp
        go_wp2_with fail
        (try simp only [Exit.inBlock, Exit.then])
        go_ret2
        exact ⟨HP.out, HB3.out⟩
    · have hemp : (!L.isEmpty) = true := by cases L with | nil => exact absurd rfl hL | cons x l => rfl
      rw [hemp] at hne
      have HLN := Lib.hid hL
      have HLL : Hid (L.length ≤ 10000000) := by show _ ≤ _; have := HSZ.out; have := HL0.out; omega
      have HOK := Lib.hid (line_is L)
      have HGT := Lib.hid (fun h => line_get (l := L) h)
      have HCL : Hid ((Lib.cut L [10]).1.length ≤ 10000000) := Nat.le_trans (cut_len L 10).1 HLL.out
      clear hemp hL
      go_wp2_with (first
        | refine wpList_eql rfl .neq 9 _ _ _ rfl (.string (txt L)) (.string ⟨#[]⟩) rfl rfl (.bool true) (guard_strn _ _ _ _) hne ?_)
      clear hne
      refine (cut_any L 10 wr (HE.out.below HBW.out) (by have := HLL.out; omega)).mono ?_
      rintro e w1 ⟨rfl, hb⟩
      have HB1 := Lib.hid (HBW.out.trans (hb.mono HBW.out.size))
      have HO1 := Lib.hid (HO.out.below hb)
      clear hb HO HBW
      generalize (Lib.cut L [10]).1 = A at *
      generalize (Lib.cut L [10]).2.1 = B at *
      generalize (Lib.cut L [10]).2.2 = k1 at *
      go_wp2_with fail
      refine (cut_any A 32 w1 (HE.out.below HB1.out) (by have := HCL.out; omega)).mono ?_
      rintro e w2 ⟨rfl, hb⟩
      have HB2 := Lib.hid (HB1.out.trans (hb.mono HB1.out.size))
      have HO2 := Lib.hid (HO1.out.below hb)
      have HGL : Hid ((txt (Lib.cut A [32]).1).size ≤ 9223372036854775807) := by show _ ≤ _; rw [txt_size]; have := (cut_len A 32).1; have := HCL.out; omega
      have HHL : Hid ((txt (Lib.cut A [32]).2.1).size ≤ 9223372036854775807) := by show _ ≤ _; rw [txt_size]; have := (cut_len A 32).2; have := HCL.out; omega
      clear hb HO1 HB1
      generalize (Lib.cut A [32]).1 = G at *
      generalize (Lib.cut A [32]).2.1 = H at *
      generalize (Lib.cut A [32]).2.2 = k2 at *
      go_wp2_with fail
      refine (parse_any (txt G) w2 HGL.out).mono ?_
      rintro e w3 ⟨rfl, hb⟩
      have HB3 := Lib.hid (HB2.out.trans (hb.mono HB2.out.size))
      have HO3 := Lib.hid (HO2.out.below hb)
      have HPG : Hid ((parsed (txt G)).length = 20) := parsed_length _
      have HPH : Hid ((parsed (txt H)).length = 20) := parsed_length _
      have HEG : Hid (parsedE (txt G) = if isHex (txt G) = true then 0 else 4) := rfl
      have HEH : Hid (parsedE (txt H) = if isHex (txt H) = true then 0 else 4) := rfl
      clear hb HO2 HB2 HGL
      have HLP : Hid (lineOk L = true → parsed (txt G) ++ parsed (txt H) = lineP L) := fun h => by
        obtain ⟨e1, e2, -⟩ := HGT.out h
        rw [e1, e2]; rfl
      generalize parsed (txt G) = pg at *
      generalize parsedE (txt G) = eg at *
      generalize isHex (txt G) = kg at *
      have HIG : Hid ((Try.prog.info? 42).map (·.size) = some (V8 pg).size) := id_info _ HPG.out
      have HSG : Hid ((V8 zeros20).size = (V8 pg).size) := by show _ = _; rw [V8_size, V8_size, HPG.out]; rfl
      have HZG : Hid ((w3.alloc (.cells (V8 zeros20) 42)).heap[w3.heap.size]? = some (.cells (V8 zeros20) 42 (0, 0))) := heap_alloc_new _ _
      have hb4 : Below w3.heap.size w3 ((w3.alloc (.cells (V8 zeros20) 42)).setRow w3.heap.size (V8 pg)) := below_setRow ((Below.refl _ _).alloc (Nat.le_refl _) _) (Nat.le_refl _) _
      have HB4 := Lib.hid (HB3.out.trans (hb4.mono HB3.out.size))
      have HO4 := Lib.hid (HO3.out.below hb4)
      have HG4 := Lib.hid (setRow_heap _ _ _ (V8 pg) _ _ HZG.out)
      clear hb4 HO3 HB3
      go_wp2_with (first
        | refine wpList_store_row rfl 42 _ _ rfl w3.heap.size (V8 pg) rfl rfl 42 (V8 zeros20) HZG.out HIG.out HSG.out (V8_one _) ?_)
      clear HZG
      generalize (w3.alloc (.cells (V8 zeros20) 42)).setRow w3.heap.size (V8 pg) = w4 at *
      generalize w3.heap.size = bg at *
      refine (parse_any (txt H) w4 HHL.out).mono ?_
      rintro e w5 ⟨rfl, hb⟩
      have HB5 := Lib.hid (HB4.out.trans (hb.mono HB4.out.size))
      have HO5 := Lib.hid (HO4.out.below hb)
      have HG5 : Hid (w5.heap[bg]? = some (.cells (V8 pg) 42 (0, 0))) := (hb.block bg (Array.getElem?_eq_some_iff.1 HG4.out).1).trans HG4.out
      clear hb HO4 HB4 HG4 HHL
      generalize parsed (txt H) = ph at *
      generalize parsedE (txt H) = eh at *
      generalize isHex (txt H) = kh at *
      have HIH : Hid ((Try.prog.info? 42).map (·.size) = some (V8 ph).size) := id_info _ HPH.out
      have HSH : Hid ((V8 zeros20).size = (V8 ph).size) := by show _ = _; rw [V8_size, V8_size, HPH.out]; rfl
      have HZH : Hid ((w5.alloc (.cells (V8 zeros20) 42)).heap[w5.heap.size]? = some (.cells (V8 zeros20) 42 (0, 0))) := heap_alloc_new _ _
      have hb6 : Below w5.heap.size w5 ((w5.alloc (.cells (V8 zeros20) 42)).setRow w5.heap.size (V8 ph)) := below_setRow ((Below.refl _ _).alloc (Nat.le_refl _) _) (Nat.le_refl _) _
      have HBX := Lib.hid (HB5.out.trans (hb6.mono HB5.out.size))
      have HO6 := Lib.hid (HO5.out.below hb6)
      have HG6 : Hid (((w5.alloc (.cells (V8 zeros20) 42)).setRow w5.heap.size (V8 ph)).heap[bg]? = some (.cells (V8 pg) 42 (0, 0))) := (hb6.block bg (Array.getElem?_eq_some_iff.1 HG5.out).1).trans HG5.out
      have HH6 := Lib.hid (setRow_heap _ _ _ (V8 ph) _ _ HZH.out)
      clear hb6 HO5 HB5 HG5
      have HBADF : Hid (lineOk L = false → MkParse w.heap.size (.returned (.tuple #[.slice none 0 0, .int .i64 4])) ((w5.alloc (.cells (V8 zeros20) 42)).setRow w5.heap.size (V8 ph)) (pairsL L0)) := fun h => by
        rw [HPR.out, pairs_bad HLN.out h]
        exact rfl
      cases k1
      · have HBAD := Lib.hid (HBADF.out (by rw [← HOK.out]; rfl))
        clear HOK
        go_wp2_with (first
          | refine wpList_store_row rfl 42 _ _ rfl w5.heap.size (V8 ph) rfl rfl 42 (V8 zeros20) HZH.out HIH.out HSH.out (V8_one _) ?_)
        (try simp only [Exit.inBlock, Exit.then])
        go_ret2
        exact ⟨HBAD.out, HBX.out⟩
      cases k2
      · have HBAD := Lib.hid (HBADF.out (by rw [← HOK.out]; rfl))
        clear HOK
        go_wp2_with (first
          | refine wpList_store_row rfl 42 _ _ rfl w5.heap.size (V8 ph) rfl rfl 42 (V8 zeros20) HZH.out HIH.out HSH.out (V8_one _) ?_)
        (try simp only [Exit.inBlock, Exit.then])
        go_ret2
        exact ⟨HBAD.out, HBX.out⟩
      cases kg
      · have HBAD := Lib.hid (HBADF.out (by rw [← HOK.out]; rfl))
        have he : eg = 4 := by rw [HEG.out]; rfl
        clear HEG HEH
        subst he
        clear HOK
        go_wp2_with (first
          | refine wpList_store_row rfl 42 _ _ rfl w5.heap.size (V8 ph) rfl rfl 42 (V8 zeros20) HZH.out HIH.out HSH.out (V8_one _) ?_)
        (try simp only [Exit.inBlock, Exit.then])
        go_ret2
        exact ⟨HBAD.out, HBX.out⟩
      have he : eg = 0 := by rw [HEG.out]; rfl
      clear HEG
      subst he
      cases kh
      · have HBAD := Lib.hid (HBADF.out (by rw [← HOK.out]; rfl))
        have hf : eh = 4 := by rw [HEH.out]; rfl
        clear HEH
        subst hf
        clear HOK
        go_wp2_with (first
          | refine wpList_store_row rfl 42 _ _ rfl w5.heap.size (V8 ph) rfl rfl 42 (V8 zeros20) HZH.out HIH.out HSH.out (V8_one _) ?_)
        (try simp only [Exit.inBlock, Exit.then])
        go_ret2
        exact ⟨HBAD.out, HBX.out⟩
      have hf : eh = 0 := by rw [HEH.out]; rfl
      clear HEH
      subst hf
      have hok : lineOk L = true := by rw [← HOK.out]; rfl
      have h82 : 82 ≤ L.length := by have := hok; unfold lineOk at this; simp only [Bool.and_eq_true, decide_eq_true_eq] at this; exact this.1.1.1.1
      have HPB := Lib.hid (build_pair pg ph HPG.out HPH.out)
      have HPL : Hid ((pg ++ ph).length = 40) := by show _ = _; rw [List.length_append, HPG.out, HPH.out]
      have HQ : Hid (pairsL L0 = (pairsL (L.drop 82)).map ((acc ++ [pg ++ ph]) ++ ·)) := by
        show _ = _
        rw [HPR.out, pairs_step hok, HLP.out hok, Option.map_map]
        congr 1
        funext x
        simp
      have HSZ2 : Hid (82 * (acc ++ [pg ++ ph]).length + (L.drop 82).length = L0.length) := by
        show _ = _
        have := HSZ.out
        rw [List.length_append, List.length_drop, List.length_singleton]; omega
      have HMS : Hid ((txt (L.drop 82)).size < (txt L).size) := by
        show _ < _
        rw [txt_size, txt_size, List.length_drop]; omega
      have HTB : Hid (B = L.drop 82) := (HGT.out hok).2.2
      have HAL : Hid (acc.length ≤ 1000000) := by show _ ≤ _; have := HSZ.out; have := HL0.out; omega
      have HLG := Lib.hid (id_infoL pg HPG.out)
      have HLH := Lib.hid (id_infoL ph HPH.out)
      have HBC := Lib.hid ((HBX.out.alloc HBX.out.size (.cells (V8 (pg ++ ph)) 46)))
      have HOC : Hid (OwnP 46 (((w5.alloc (.cells (V8 zeros20) 42)).setRow w5.heap.size (V8 ph)).alloc (.cells (V8 (pg ++ ph)) 46)) w.heap.size (.slice la acc.length lc) acc) := HO6.out.below ((Below.refl _ _).alloc (Nat.le_refl _) _)
      have HQC := Lib.hid (one_pair ((w5.alloc (.cells (V8 zeros20) 42)).setRow w5.heap.size (V8 ph)) (pg ++ ph) HPL.out)
      have tok : True := trivial
      clear hok h82 HBADF HPR HOK HGT HLP HSZ HO6
      obtain ⟨w6, hw6⟩ : ∃ W, ((w5.alloc (.cells (V8 zeros20) 42)).setRow w5.heap.size (V8 ph)) = W := ⟨_, rfl⟩
      rw [hw6] at HG6 HH6 HBC HOC HQC HBX
      have HW6 := Lib.hid hw6
      go_wp2_with (first
        | (refine wpList_store_row rfl 42 _ _ rfl w5.heap.size (V8 ph) rfl rfl 42 (V8 zeros20) HZH.out HIH.out HSH.out (V8_one _) ?_; rw [HW6.out])
        | refine wpList_load_v8 rfl 42 _ rfl bg 0 rfl pg _ (row_boxed HG6.out).2 Try.underlying42 rfl HLG.out ?_
        | refine wpList_load_v8 rfl 42 _ rfl w5.heap.size 0 rfl ph _ (row_boxed HH6.out).2 Try.underlying42 rfl HLH.out ?_
        | refine wpList_build_2 rfl 46 _ _ rfl (.agg (V8 pg)) (.agg (V8 ph)) rfl rfl (.agg (V8 (pg ++ ph))) HPB.out ?_
        | refine wpList_slice rfl 24 1 #[(0, _)] rfl #[(0, .agg (V8 (pg ++ ph)))] (map_one _ _ _ rfl) (.slice (some ⟨w6.heap.size, 0, none⟩) 1 1) (w6.alloc (.cells (V8 (pg ++ ph)) 46)) (slice_one _ HPL.out w6) ?_
        | (have _t := tok; refine wpList_append_pairs rfl _ _ rfl w.heap.size _ acc rfl HOC.out (some ⟨w6.heap.size, 0, none⟩) 1 1 [pg ++ ph] rfl rfl HQC.out (fun e => by cases e) (by have := HAL.out; simp; omega) HBC.out.size ?_; clear tok; refine Hid.out ?_))
      refine unhid ?_
      intro v7 w7 ho7 hg7
      have HO7 := Lib.hid ho7
      have HB7 := Lib.hid (HBC.out.trans (off_of HOC.out HBC.out.size hg7))
      clear ho7 hg7 HOC HQC HBC
      go_wp2_with fail
      rw [HTB.out]
      exact ⟨⟨acc ++ [pg ++ ph], L.drop 82, HO7.out, rfl, HQ.out, HSZ2.out, HB7.out⟩, HMS.out⟩
end Go.Proofs.Ytlhdjbnilfbaoaa
