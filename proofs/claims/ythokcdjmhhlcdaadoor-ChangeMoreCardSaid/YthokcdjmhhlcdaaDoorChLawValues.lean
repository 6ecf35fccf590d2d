/- The law ChangeValues. -/
import Derived.Test.YthokcdjmhhlcdaaDoorChKnown
namespace Go.Proofs.YthokcdjmhhlcdaaDoor
open Go.RowKit Plain Go.ChangeShapes Go.WideShapes Go.ChangeAt Go.Great
set_option linter.unusedVariables false
set_option linter.unusedSimpArgs false
theorem neq_self (s : ByteArray) (W : World) : (binOp .neq 9 (.string s) (.string s)).run Tryd.prog W = .ok (.bool false) W := by
  rw [binOp_string_neq]
  simp
theorem guard_strn (x y : Operand) (s t : ByteArray) (W : World) : (eqGuard .neq 9 x y (.string s) (.string t)).run Tryd.prog W = .ok () W := by
  simp [eqGuard]
theorem prev_int (k : Nat) (h : k ≤ 100000000000) : ∀ x : Int, x = (k : Int) - 1 → wrap64 x = (k : Int) - 1 := fun x hx => by
  rw [hx, IntWalk.wrap64_in _ (by omega)]
set_option maxRecDepth 100000 in
set_option maxHeartbeats 16000000 in
theorem lawvalues_any (c : CX) (xa : Option Addr) (xc : Nat) (fa : Option Addr) (fc : Nat) (K : ByteArray) (w : World) (hE : EnvC w) (h : InCh w c xa fa) (hK : K.size ≤ maxLen) :
    Calls Tryd.prog 4 #[.agg (chV c xa xc fa fc), .string K] w fun e w' => e = .returned (.bool true) ∧ Below w.heap.size w w' := by
  have HE := Lib.hid hE
  have H20 := Lib.hid h.n20
  have HB0 : Hid (Below w.heap.size w (w.alloc (.cells (chV c xa xc fa fc) 26))) := (Below.refl _ _).alloc (Nat.le_refl _) _
  have HR0 : Hid (ChRow (w.alloc (.cells (chV c xa xc fa fc) 26)) w.heap.size c (.slice xa c.xs.length xc) (.slice fa c.fs.length fc)) := ChRow.of (heap_alloc_new _ _) h.n20
  have HTO := Lib.hid (chto_any c xa xc fa fc (w.alloc (.cells (chV c xa xc fa fc) 26)) (h.below HB0.out))
  have hkm : min (K.size : Int) 150 = ((min K.size 150 : Nat) : Int) := by omega
  have hks : ∀ W, (Instr.slice 9 (.string K) none (some (.int .i64 ((min K.size 150 : Nat) : Int))) none).run Tryd.prog W = .ok (.string (cutB 150 K)) W := fun W => slice_front K (min K.size 150) (by omega) _ rfl W
  have HCV0 : Hid ((chL c (.slice xa c.xs.length xc) (.slice fa c.fs.length fc)).toArray = chV c xa xc fa fc) := rfl
  have hzc := zero_ch
  clear h hE
  go_enter Tryd.func4, Tryd.ntmps4
  go_wp2_with (first
    | (refine wpList_load_mid rfl 26 _ rfl w.heap.size 0 rfl (chL c (.slice xa c.xs.length xc) (.slice fa c.fs.length fc)) _ HR0.out.cells Tryd.underlying26 rfl (info_rch c _ _ H20.out) ?_
       rw [HCV0.out]))
  refine HTO.out.mono ?_
  rintro e w1 ⟨hto, hb⟩
  have HB1 := Lib.hid (HB0.out.trans (hb.mono HB0.out.size))
  have hn20 : (fewC c).xs.length ≤ 20 := by show (List.map fewX (c.xs.take 20)).length ≤ 20; rw [List.length_map, List.length_take]; omega
  clear hb HTO HR0 HCV0 HB0
  obtain ⟨F, hF⟩ : ∃ F, fewC c = F := ⟨_, rfl⟩
  rw [hF] at hto hn20
  clear hF
  obtain ⟨ya, yc, za, zc, rfl, hat⟩ := hto
  have HZ : Hid ((w1.alloc (.cells (chA czero (.slice none 0 0) (.slice none 0 0)) 31)).heap[w1.heap.size]? = some (.cells (chA czero (.slice none 0 0) (.slice none 0 0)) 31 (0, 0))) := heap_alloc_new _ _
  have HBS : Hid (Below w1.heap.size w1 ((w1.alloc (.cells (chA czero (.slice none 0 0) (.slice none 0 0)) 31)).setRow w1.heap.size (chV F ya yc za zc))) := below_setRow ((Below.refl _ _).alloc (Nat.le_refl _) _) (Nat.le_refl _) _
  obtain ⟨n, hn⟩ : ∃ n, F.xs.length = n := ⟨_, rfl⟩
  obtain ⟨fn, hfn⟩ : ∃ n, F.fs.length = n := ⟨_, rfl⟩
  have HN := Lib.hid hn
  have HN20 : Hid (n ≤ 20) := by rw [← hn]; exact hn20
  have HCV : Hid ((chL F (.slice ya n yc) (.slice za fn zc)).toArray = chV F ya yc za zc) := by rw [← hn, ← hfn]; rfl
  have HRS : Hid (((w1.alloc (.cells (chA czero (.slice none 0 0) (.slice none 0 0)) 31)).setRow w1.heap.size (chV F ya yc za zc)).heap[w1.heap.size]? = some (.cells (chV F ya yc za zc) 31 (0, 0))) := setRow_heap _ _ _ _ _ _ HZ.out
  have HAT0 := Lib.hid (hat.below HBS.out)
  have HN2 := Lib.hid hat.n20
  clear hat hn20 hn
  go_wp2_with (first
    | refine wpList_store_row rfl 31 _ _ rfl w1.heap.size (chV F ya yc za zc) rfl rfl 31 (chA czero (.slice none 0 0) (.slice none 0 0)) HZ.out (info_chA F _ _ HN2.out) (by unfold chV; rw [chA_size _ _ _ czero_20, chA_size F _ _ HN2.out]) (chA_one _ _ _ rfl rfl) ?_)
  clear hkm hks hzc HZ
  have HBW := Lib.hid (HB1.out.trans (HBS.out.mono HB1.out.size))
  obtain ⟨xb, hxb⟩ : ∃ b, w1.heap.size = b := ⟨_, rfl⟩
  rw [hxb] at HRS HAT0 HBW ⊢
  clear HBS hxb HB1
  generalize (w1.alloc (.cells (chA czero (.slice none 0 0) (.slice none 0 0)) 31)).setRow xb (chV F ya yc za zc) = w2 at *
  generalize cutB 150 K = K1
  have HXL := Lib.hid (Array.getElem?_eq_some_iff.1 HRS.out).1
  have HRWA : Hid (∀ W, Below w2.heap.size w2 W → ChRow W xb F (.slice ya n yc) (.slice za fn zc)) := fun W hW => by
    have h1 := (hW.block xb HXL.out).trans HRS.out
    rw [← HCV.out] at h1
    exact ChRow.of h1 HN2.out
  go_loopw [6] (fun i wr => ∃ k : Nat, k ≤ n + 1 ∧ i = .int .i64 (k : Int) ∧ Below w2.heap.size w2 wr) (fun i _ => n + 1 - (intOf i).toNat)
  case atStart => exact ⟨0, Nat.zero_le _, rfl, Below.refl _ _⟩
  case round =>
    rename World => wr
    obtain ⟨k, hk, rfl, hb⟩ := hrel
    have HCH := Lib.hid hb
    have WK := Lib.hid (next_int k (by have := HN20.out; omega))
    have HRW := Lib.hid (HRWA.out wr HCH.out)
    have HAT := Lib.hid (HAT0.out.below HCH.out)
    have HCX := Lib.hid HRW.out.exts
    have hcx := HCX.out
    clear hb
    by_cases h1 : k = n + 1
    · have hki : ¬ (k : Int) ≤ (n : Int) := by omega
      go_wp2_with fail
      refine (chknown_any wr (HE.out.below (HBW.out.trans (HCH.out.mono HBW.out.size)))).mono ?_
      rintro e w6 ⟨rfl, hb6⟩
      have HB6 := Lib.hid (HBW.out.trans ((HCH.out.trans (hb6.mono HCH.out.size)).mono HBW.out.size))
      clear hb6
      go_wp2_with fail
      go_ret
      exact ⟨rfl, HB6.out⟩
    · have HK1 : Hid (k + 1 ≤ n + 1) := by show _ ≤ _; omega
      have hki : (k : Int) ≤ (n : Int) := by omega
      by_cases h2 : k = n
      · have hkn : ¬ (k : Int) < (n : Int) := by omega
        clear h1 h2 hk
        go_wp2_with fail
        go_loopw [8, 9, 10] (fun want inn j wt => ∃ (m : Nat) (z : Int), m ≤ n ∧ j = .int .i64 z ∧ z = (m : Int) - 1 ∧ want = .string (lookK (F.xs.drop m) K1).1 ∧ inn = .bool (lookK (F.xs.drop m) K1).2 ∧ wt = wr) (fun _ _ j _ => (intOf j + 1).toNat)
        case atStart => exact ⟨n, (n : Int) - 1, Nat.le_refl _, by first | rfl | exact congrArg (Value.int .i64) (prev_int n (by have := HN20.out; omega) _ rfl), rfl, by rw [List.drop_of_length_le (by rw [HN.out]; exact Nat.le_refl _)]; rfl, by rw [List.drop_of_length_le (by rw [HN.out]; exact Nat.le_refl _)]; rfl, rfl⟩
        case round =>
          obtain ⟨m, z, hm, rfl, hz, rfl, rfl, rfl⟩ := hrel
          rename World => wr
          have hcx2 := HCX.out
          cases m with
          | zero =>
            obtain rfl : z = -1 := by omega
            rw [List.drop_zero]
            obtain ⟨V, Q, hvq⟩ : ∃ V Q, lookK F.xs K1 = (V, Q) := ⟨_, _, rfl⟩
            have HVQ := Lib.hid hvq
            rw [hvq]
            have HSE := Lib.hid (neq_self V)
            clear hvq hm hz
            go_wp2_with (first
              | (refine wpList_load_mid rfl 31 _ rfl xb 0 rfl (chL F (.slice ya n yc) (.slice za fn zc)) _ HRW.out.cells Tryd.underlying31 rfl (info_ch F _ _ HAT.out.n20) ?_
                 rw [HCV.out]))
            refine (chlook_any F ya yc za zc K1 wr HAT.out (by rw [HN.out]; have := HN20.out; omega)).mono ?_
            rintro e w5 ⟨rfl, hb5⟩
            rw [HVQ.out]
            have HB5 := Lib.hid hb5
            clear hb5
            go_wp2_with (first
              | refine wpList_eql (by rfl) .neq 9 _ _ _ rfl (.string V) (.string V) rfl rfl (.bool false) (guard_strn _ _ _ _) HSE.out ?_)
            try rw [WK.out ((k : Int) + 1) rfl]
            exact ⟨⟨k + 1, HK1.out, rfl, HCH.out.trans (HB5.out.mono HCH.out.size)⟩, by simp [intOf]; have := HK1.out; omega⟩
          | succ m =>
            obtain rfl : z = (m : Int) := by omega
            have hmi : (m : Int) < (n : Int) := by omega
            have WP := Lib.hid (prev_int m (by have := HN20.out; omega))
            rcases HAT.out.exts with h0 | ⟨b, off, rfl, hbl, hc⟩
            · rw [HN.out] at h0; omega
            obtain ⟨x, hp⟩ : ∃ x, F.xs[m]? = some x := ⟨_, List.getElem?_eq_getElem (by rw [HN.out]; omega)⟩
            have hr := hc m x hp
            have hx0 := range_key hr
            have hx1 := range_val hr
            have HDR : Hid (F.xs.drop m = x :: F.xs.drop (m + 1)) := by
              obtain ⟨hl, hg⟩ := List.getElem?_eq_some_iff.1 hp
              show _ = _
              rw [List.drop_eq_getElem_cons hl, hg]
            have HM : Hid (m ≤ n) := by show _ ≤ _; omega
            have HEQ : Hid (∀ W, (binOp .eql 9 (.string x.1) (.string (K1))).run Tryd.prog W = .ok (.bool (decide (x.1 = K1))) W) := fun W => by rw [str_eql, str_same]
            clear hr hp hbl hc hm hz
            by_cases he : x.1 = K1
            · have HL : Hid (lookK (F.xs.drop m) K1 = (x.2, true)) := by show _ = _; rw [HDR.out, lookK, if_pos he]
              rw [decide_eq_true he] at HEQ
              clear he
              go_wp2_with (first
                | refine wpList_eql (by rfl) .eql 9 _ _ _ rfl (.string x.1) (.string (K1)) rfl rfl (.bool true) (guard_eq _ _ _ _) (fun W => HEQ.out W) ?_)
              try rw [WP.out ((m : Int) - 1) rfl]
              exact ⟨⟨m, (m : Int) - 1, HM.out, rfl, rfl, by rw [HL.out], by rw [HL.out], by first | rfl | trivial⟩, by simp [intOf]⟩
            · have HL : Hid (lookK (F.xs.drop m) K1 = lookK (F.xs.drop (m + 1)) K1) := by show _ = _; rw [HDR.out, lookK, if_neg he]
              rw [decide_eq_false he] at HEQ
              clear he
              go_wp2_with (first
                | refine wpList_eql (by rfl) .eql 9 _ _ _ rfl (.string x.1) (.string (K1)) rfl rfl (.bool false) (guard_eq _ _ _ _) (fun W => HEQ.out W) ?_)
              try rw [WP.out ((m : Int) - 1) rfl]
              exact ⟨⟨m, (m : Int) - 1, HM.out, rfl, rfl, by rw [HL.out], by rw [HL.out], by first | rfl | trivial⟩, by simp [intOf]⟩
      · have hkn : (k : Int) < (n : Int) := by omega
        obtain ⟨y, hy⟩ : ∃ y, F.xs[k]? = some y := ⟨_, List.getElem?_eq_getElem (by rw [HN.out]; omega)⟩
        rcases HAT.out.exts with h0 | ⟨bb, boff, hya, hbbl, hcc⟩
        · rw [HN.out] at h0; omega
        subst hya
        have hy0 := range_key (hcc k y hy)
        clear h1 h2 hk hy hbbl hcc
        go_wp2_with fail
        go_loopw [8, 9, 10] (fun want inn j wt => ∃ (m : Nat) (z : Int), m ≤ n ∧ j = .int .i64 z ∧ z = (m : Int) - 1 ∧ want = .string (lookK (F.xs.drop m) y.1).1 ∧ inn = .bool (lookK (F.xs.drop m) y.1).2 ∧ wt = wr) (fun _ _ j _ => (intOf j + 1).toNat)
        case atStart => exact ⟨n, (n : Int) - 1, Nat.le_refl _, by first | rfl | exact congrArg (Value.int .i64) (prev_int n (by have := HN20.out; omega) _ rfl), rfl, by rw [List.drop_of_length_le (by rw [HN.out]; exact Nat.le_refl _)]; rfl, by rw [List.drop_of_length_le (by rw [HN.out]; exact Nat.le_refl _)]; rfl, rfl⟩
        case round =>
          obtain ⟨m, z, hm, rfl, hz, rfl, rfl, rfl⟩ := hrel
          rename World => wr
          have hcx2 := HCX.out
          cases m with
          | zero =>
            obtain rfl : z = -1 := by omega
            rw [List.drop_zero]
            obtain ⟨V, Q, hvq⟩ : ∃ V Q, lookK F.xs y.1 = (V, Q) := ⟨_, _, rfl⟩
            have HVQ := Lib.hid hvq
            rw [hvq]
            have HSE := Lib.hid (neq_self V)
            clear hvq hm hz
            go_wp2_with (first
              | (refine wpList_load_mid rfl 31 _ rfl xb 0 rfl (chL F (.slice (some ⟨bb, boff, none⟩) n yc) (.slice za fn zc)) _ HRW.out.cells Tryd.underlying31 rfl (info_ch F _ _ HAT.out.n20) ?_
                 rw [HCV.out]))
            refine (chlook_any F (some ⟨bb, boff, none⟩) yc za zc y.1 wr HAT.out (by rw [HN.out]; have := HN20.out; omega)).mono ?_
            rintro e w5 ⟨rfl, hb5⟩
            rw [HVQ.out]
            have HB5 := Lib.hid hb5
            clear hb5
            go_wp2_with (first
              | refine wpList_eql (by rfl) .neq 9 _ _ _ rfl (.string V) (.string V) rfl rfl (.bool false) (guard_strn _ _ _ _) HSE.out ?_)
            try rw [WK.out ((k : Int) + 1) rfl]
            exact ⟨⟨k + 1, HK1.out, rfl, HCH.out.trans (HB5.out.mono HCH.out.size)⟩, by simp [intOf]; have := HK1.out; omega⟩
          | succ m =>
            obtain rfl : z = (m : Int) := by omega
            have hmi : (m : Int) < (n : Int) := by omega
            have WP := Lib.hid (prev_int m (by have := HN20.out; omega))
            rcases HAT.out.exts with h0 | ⟨b, off, hbe, hbl, hc⟩
            · rw [HN.out] at h0; omega
            obtain ⟨rfl, rfl⟩ : bb = b ∧ boff = off := by simpa using hbe
            obtain ⟨x, hp⟩ : ∃ x, F.xs[m]? = some x := ⟨_, List.getElem?_eq_getElem (by rw [HN.out]; omega)⟩
            have hr := hc m x hp
            have hx0 := range_key hr
            have hx1 := range_val hr
            have HDR : Hid (F.xs.drop m = x :: F.xs.drop (m + 1)) := by
              obtain ⟨hl, hg⟩ := List.getElem?_eq_some_iff.1 hp
              show _ = _
              rw [List.drop_eq_getElem_cons hl, hg]
            have HM : Hid (m ≤ n) := by show _ ≤ _; omega
            have HEQ : Hid (∀ W, (binOp .eql 9 (.string x.1) (.string y.1)).run Tryd.prog W = .ok (.bool (decide (x.1 = y.1))) W) := fun W => by rw [str_eql, str_same]
            clear hr hp hbl hc hm hz
            by_cases he : x.1 = y.1
            · have HL : Hid (lookK (F.xs.drop m) y.1 = (x.2, true)) := by show _ = _; rw [HDR.out, lookK, if_pos he]
              rw [decide_eq_true he] at HEQ
              clear he
              go_wp2_with (first
                | refine wpList_eql (by rfl) .eql 9 _ _ _ rfl (.string x.1) (.string y.1) rfl rfl (.bool true) (guard_eq _ _ _ _) (fun W => HEQ.out W) ?_)
              try rw [WP.out ((m : Int) - 1) rfl]
              exact ⟨⟨m, (m : Int) - 1, HM.out, rfl, rfl, by rw [HL.out], by rw [HL.out], by first | rfl | trivial⟩, by simp [intOf]⟩
            · have HL : Hid (lookK (F.xs.drop m) y.1 = lookK (F.xs.drop (m + 1)) y.1) := by show _ = _; rw [HDR.out, lookK, if_neg he]
              rw [decide_eq_false he] at HEQ
              clear he
              go_wp2_with (first
                | refine wpList_eql (by rfl) .eql 9 _ _ _ rfl (.string x.1) (.string y.1) rfl rfl (.bool false) (guard_eq _ _ _ _) (fun W => HEQ.out W) ?_)
              try rw [WP.out ((m : Int) - 1) rfl]
              exact ⟨⟨m, (m : Int) - 1, HM.out, rfl, rfl, by rw [HL.out], by rw [HL.out], by first | rfl | trivial⟩, by simp [intOf]⟩
end Go.Proofs.YthokcdjmhhlcdaaDoor
