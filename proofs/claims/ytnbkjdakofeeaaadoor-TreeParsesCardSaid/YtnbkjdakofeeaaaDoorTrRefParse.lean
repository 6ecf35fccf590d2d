/- The document's Parse of entries: the walk. -/
import Derived.Test.YtnbkjdakofeeaaaDoorTrRefMath
namespace Go.Proofs.YtnbkjdakofeeaaaDoor
open Go.RowKit Plain
set_option linter.unusedVariables false
set_option linter.unusedSimpArgs false
theorem zero_rent (W : World) : (zeroValue 50).run Tryd.prog W = .ok (.agg (entA noEnt)) W := by kernel_rfl
theorem entA_zero : (entA noEnt) = entA ⟨modeUp ([] : List UInt8) 0, ⟨#[]⟩, zeros20⟩ := rfl
/-- What the document's Parse answers. -/
def RfTree (base : Nat) (e : Ending) (w' : World) : Option (List TE) → Prop
  | none => e = .returned (.tuple #[.slice none 0 0, .int .i64 4])
  | some xs => ∃ a c, e = .returned (.tuple #[.slice a xs.length c, .int .i64 0]) ∧ OwnE 50 w' base (.slice a xs.length c) xs
theorem RfTree.good {base m : Nat} {w' : World} {xs : List TE} {a : Option Addr} {c : Nat} (hm : xs.length = m) (ho : OwnE 50 w' base (.slice a m c) xs) : RfTree base (.returned (.tuple #[.slice a m c, .int .i64 0])) w' (some xs) := by
  subst hm
  exact ⟨a, c, rfl, ho⟩
theorem wpList_append_rent {w : World} {ops : Array Oper} {rest : List Oper} {o : Oper} {ac : Act} {Q : Exit → Act → World → Prop} (hgd : o.guard = none) (s x : Operand)
    (ho : o.op = .call { callee := .builtin .append, args := #[s, x], argTypes := #[27, 27] })
    (base : Nat) (v : Value) (xs : List TE) (n : Nat) (hn : xs.length = n) (hs : ac.eval s = v) (hown : OwnE 50 w base v xs) (g0 : Nat) (y : TE) (hy20 : y.n.length = 20) (hx : ac.eval x = .slice (some ⟨g0, 0, none⟩) 1 1) (hy : w.rangeAt g0 0 (entL y))
    (hsum : n + 1 ≤ 1000001) (hbase : base ≤ w.heap.size)
    (h : ∀ g c w', OwnE 50 w' base (.slice (some ⟨g, 0, none⟩) (n + 1) c) (xs ++ [y]) → w.grownBy w' v.ownBlock → wpList Tryd.prog ops Q rest (ac.put o.dst (.slice (some ⟨g, 0, none⟩) (n + 1) c)) w') :
    wpList Tryd.prog ops Q (o :: rest) ac w :=
  wpList_step fun K hK => step_append_rent hgd s x ho base v xs n hn hs hown g0 y hy20 hx hy hsum hbase fun g c w' h1 h2 h3 h4 => hK _ _ (h g c w' h1 h2)
theorem text_one (W : World) (c : UInt8) : (convert 22 9 (.slice (some ⟨W.heap.size, 0, none⟩) 1 1)).run Tryd.prog (W.alloc (.cells #[.int .u8 (c.toNat : Int)] 5)) = .ok (.string (txt [c])) (W.alloc (.cells #[.int .u8 (c.toNat : Int)] 5)) := by
  have h := text_run (W.alloc (.cells #[.int .u8 (c.toNat : Int)] 5)) (some ⟨W.heap.size, 0, none⟩) 1 1 [(c.toNat : Int)] (Bytes.lit W W.heap.size rfl [(c.toNat : Int)] 5 (0, 0) 1 rfl (by omega) (by intro y hy; simp at hy; have := c.toNat_lt; omega))
  have e : strOfNums [(c.toNat : Int)] = txt [c] := bytes_ext (by rw [strOfNums_data, txt_list]; simp)
  rw [h, e]
theorem word_more {L : List UInt8} {k e : Nat} {c : UInt8} (hk : k ≤ e) (h : L[e]? = some c) : txt ((L.drop k).take (e - k)) ++ txt [c] = txt ((L.drop k).take (e + 1 - k)) := by
  apply bytes_ext
  rw [ByteArray.data_append, Array.toList_append, txt_list, txt_list, txt_list, show e + 1 - k = (e - k) + 1 by omega, List.take_add_one, List.getElem?_drop, show k + (e - k) = e by omega, h]
  rfl
theorem numsOf_get (L : List UInt8) (j : Nat) (h : j < L.length) : (numsOf (txt L))[j]?.getD 0 = ((L[j]?.getD 0).toNat : Int) := by
  unfold numsOf
  rw [txt_list, List.getElem?_map, List.getElem?_eq_getElem h]
  rfl
theorem part_txt (L : List UInt8) (f n : Nat) : strOfNums (((numsOf (txt L)).drop f).take n) = txt ((L.drop f).take n) := by
  apply bytes_ext
  rw [strOfNums_data, txt_list]
  unfold numsOf
  rw [txt_list, ← List.map_drop, ← List.map_take, List.map_map]
  conv => rhs; rw [← List.map_id ((L.drop f).take n)]
  apply List.map_congr_left
  intro x hx
  simp
theorem add_20 (g z : Nat) (e : g + 20 = z + 21) (h : z ≤ 100000000000) : ∀ x : Int, x = (g : Int) + 20 → wrap64 x = ((z + 21 : Nat) : Int) := fun x hx => by
  subst hx
  rw [show (g : Int) + 20 = ((z + 21 : Nat) : Int) by omega]
  exact IntWalk.wrap64_in _ (by omega)
theorem add_nat (g d : Nat) (h : g + d ≤ 100000000000) : ∀ x : Int, x = (g : Int) + (d : Int) → wrap64 x = ((g + d : Nat) : Int) := fun x hx => by
  subst hx
  rw [show (g : Int) + (d : Int) = ((g + d : Nat) : Int) by omega]
  exact IntWalk.wrap64_in _ (by omega)
set_option maxRecDepth 100000 in
set_option maxHeartbeats 64000000 in
theorem refparse_any (a : Option Addr) (nl cap : Nat) (L : List UInt8) (w : World) (R : RowB w a nl cap (numsOf (txt L))) (hlim : nl ≤ 100000) :
    Calls Tryd.prog 7 #[.slice a nl cap] w fun e w' => RfTree w.heap.size e w' (readT L) ∧ Below w.heap.size w w' := by
  have HNL := Lib.hid (row_len R)
  have R0 := Lib.hid R
  have HNLB := Lib.hid hlim
  have hzr := zero_rent
  clear R hlim
  go_enter Tryd.func7, Tryd.ntmps7
  go_wp2_with fail
  go_loopw [4, 5] (fun l r wr => ∃ (acc : List TE) (k : Nat), OwnE 50 wr w.heap.size l acc ∧ r = .int .i64 (k : Int) ∧ k ≤ nl ∧ 22 * acc.length ≤ k ∧ entsT L = (entsT (L.drop k)).map (acc ++ ·) ∧ Below w.heap.size w wr) (fun _ r _ => nl - (intOf r).toNat)
  case atStart => exact ⟨[], 0, OwnE.nil _ _ _, rfl, by omega, by show 22 * 0 ≤ 0; omega, by (show entsT L = (entsT L).map _; cases entsT L with | none => rfl | some x => rfl), Below.refl _ _⟩
  case round =>
    rename World => wa
    obtain ⟨acc, k, hown, rfl, hkn, hsz, hpr, hb⟩ := hrel
    obtain ⟨la, lc, rfl⟩ := hown.shape
    have HO := Lib.hid hown
    have HPR := Lib.hid hpr
    have HSZ0 := Lib.hid hsz
    have HBW := Lib.hid hb
    obtain ⟨mm, hm⟩ : ∃ m, acc.length = m := ⟨_, rfl⟩
    rw [hm] at HO HSZ0 ⊢
    have HM := Lib.hid hm
    have HMB : Hid (mm ≤ 100000) := by show _ ≤ _; have := HNLB.out; omega
    clear hown hpr hsz hb
    by_cases hL : k = nl
    · have hki : ¬ (k : Int) < (nl : Int) := by omega
      have HPR2 : Hid (entsT L = some acc) := by
        show _ = _
        rw [HPR.out, List.drop_of_length_le (by rw [HNL.out]; omega), ents_nil, Option.map_some, List.append_nil]
      have HRT := refright_any la lc acc wa (HO.out.fs.1) (by rw [hm]; have := HMB.out; omega) (fun x hx => Nat.le_trans ((ents_back L.length L (Nat.le_refl _) HPR2.out).2.2 x hx) (by rw [HNL.out]; exact HNLB.out))
      rw [hm] at HRT
      have HRT := Lib.hid HRT
      clear hm hkn hL hzr
      go_wp2_with fail
      refine HRT.out.mono ?_
      rintro e w3 ⟨rfl, hb⟩
      have HB3 := Lib.hid (HBW.out.trans (hb.mono HBW.out.size))
      have HO3 := Lib.hid (HO.out.below hb)
      clear hb HRT HO
      cases hrp : rightT acc
      · have HP : Hid (RfTree w.heap.size (.returned (.tuple #[.slice none 0 0, .int .i64 4])) w3 (readT L)) := by
          show RfTree _ _ _ _
          unfold readT
          rw [HPR2.out]
          simp only [hrp]
          exact rfl
        clear hrp
        go_wp2_with fail
        (try simp only [Exit.inBlock, Exit.then])
        go_ret2
        exact ⟨HP.out, HB3.out⟩
      · have HP : Hid (RfTree w.heap.size (.returned (.tuple #[.slice la mm lc, .int .i64 0])) w3 (readT L)) := by
          show RfTree _ _ _ _
          unfold readT
          rw [HPR2.out]
          simp only [hrp]
          exact RfTree.good HM.out HO3.out
        clear hrp
        go_wp2_with fail
        (try simp only [Exit.inBlock, Exit.then])
        go_ret2
        exact ⟨HP.out, HB3.out⟩
    · have hki : (k : Int) < (nl : Int) := by omega
      have hne : L.drop k ≠ [] := fun e => by
        have := congrArg List.length e
        rw [List.length_drop, HNL.out] at this
        simp at this; omega
      have HBADF : Hid (∀ W, entT (L.drop k) = false → RfTree w.heap.size (.returned (.tuple #[.slice none 0 0, .int .i64 4])) W (readT L)) := fun W h => by
        unfold readT
        rw [HPR.out, ents_bad hne h]
        exact rfl
      have HKL := Lib.hid (show k < nl by omega)
      rcases R0.out.bytes.2.2.2 with h0 | ⟨b, off, rfl, hcs⟩
      · omega
      have HC : Hid (∀ j, j < nl → ∀ W, Below w.heap.size w W → W.cell? ⟨b, off + j, none⟩ = some (.int .u8 ((L[j]?.getD 0).toNat : Int))) := fun j hj W hW => by
        have h1 := hcs j hj
        rw [numsOf_get L j (by rw [HNL.out]; exact hj)] at h1
        exact (hW.cell (p := ⟨b, off + j, none⟩) (World.block_lt_of_cell? w ⟨b, off + j, none⟩ h1)).trans h1
      have HREA : Hid ((wa.alloc (.cells (entA noEnt) 50)).heap[wa.heap.size]? = some (.cells (entA noEnt) 50 (0, 0))) := heap_alloc_new _ _
      have HBA : Hid (Below wa.heap.size wa (wa.alloc (.cells (entA noEnt) 50))) := (Below.refl _ _).alloc (Nat.le_refl _) _
      clear hne hL hm hkn hcs
      go_wp2_with fail
      clear hki hzr
      generalize wa.alloc (.cells (entA noEnt) 50) = w2 at *
      go_loopw [5, 7] (fun r s wi => ∃ e : Nat, k ≤ e ∧ e ≤ nl ∧ e ≤ k + 7 ∧ r = .int .i64 (e : Int) ∧ s = .string (txt ((L.drop k).take (e - k))) ∧ (∀ j, k ≤ j → j < e → L[j]? ≠ some 32) ∧ wi.heap[wa.heap.size]? = some (.cells (entA noEnt) 50 (0, 0)) ∧ Below wa.heap.size wa wi) (fun r _ _ => nl - (intOf r).toNat)
      case atStart => exact ⟨k, by omega, by have := HKL.out; omega, by omega, rfl, by rw [Nat.sub_self, List.take_zero]; rfl, fun j h1 h2 => by omega, HREA.out, HBA.out⟩
      case round =>
        rename World => wi
        obtain ⟨e, hke, hen, he7, rfl, rfl, hnb, hrei, hbi⟩ := hrel
        have HNB2 := Lib.hid hnb
        have HKE := Lib.hid hke
        have HREI := Lib.hid hrei
        have HBI := Lib.hid hbi
        have HBEI := Lib.hid (Array.getElem?_eq_some_iff.1 hrei).1
        have WE := Lib.hid (next_int e (by have := HNLB.out; omega))
        have HWZ : Hid ((txt ((L.drop k).take (e - k))).size = e - k) := by show _ = _; rw [txt_size, List.length_take, List.length_drop, HNL.out]; omega
        clear hnb hrei hbi HREA HBA
        by_cases hee : e = nl
        · have hei : ¬ (e : Int) < (nl : Int) := by omega
          have hei2 : (nl : Int) ≤ (e : Int) := by omega
          have HEN := Lib.hid hee
          obtain ⟨wd, hwd⟩ : ∃ l, (L.drop k).take (e - k) = l := ⟨_, rfl⟩
          rw [hwd] at HWZ ⊢
          clear hee hen hke he7 hwd
          have hwm : wi.alloc (.cells #[.int .i64 16384, .int .i64 33188, .int .i64 33261, .int .i64 40960, .int .i64 57344] 3) = wi.alloc (.cells modesA 3) := rfl
          have HBM0 : Hid (Below wa.heap.size wa (wi.alloc (.cells modesA 3))) := HBI.out.alloc HBI.out.size _
          have HRM0 : Hid ((wi.alloc (.cells modesA 3)).heap[wi.heap.size]? = some (.cells modesA 3 (0, 0))) := heap_alloc_new _ _
          have HRE0 : Hid ((wi.alloc (.cells modesA 3)).heap[wa.heap.size]? = some (.cells (entA noEnt) 50 (0, 0))) := (Below.heap_alloc _ _ _ (HBEI.out)).trans HREI.out
          have HWM := Lib.hid hwm
          have HNE : Hid (wi.heap.size ≠ wa.heap.size) := by have := HBEI.out; show _ ≠ _; omega
          clear hwm
          go_wp2_with fail
          rw [HWM.out]
          clear HWM HREI
          obtain ⟨bm, hbm⟩ : ∃ b, wi.heap.size = b := ⟨_, rfl⟩
          rw [hbm] at HRM0 HNE ⊢
          clear hbm
          have HBEI0 : Hid (wa.heap.size < (wi.alloc (.cells modesA 3)).heap.size) := by have := HBEI.out; show _ < _; simp; omega
          generalize wi.alloc (.cells modesA 3) = w3 at *
          go_loopw [44] (fun i wj => ∃ j : Nat, j ≤ 5 ∧ i = .int .i64 (j : Int) ∧ wj.heap[wa.heap.size]? = some (.cells (entA ⟨modeUp wd j, ⟨#[]⟩, zeros20⟩) 50 (0, 0)) ∧ wj.heap[bm]? = some (.cells modesA 3 (0, 0)) ∧ Below wa.heap.size wa wj) (fun i _ => 5 - (intOf i).toNat)
          case atStart => exact ⟨0, by omega, rfl, HRE0.out, HRM0.out, HBM0.out⟩
          case round =>
            rename World => wj
            obtain ⟨j, hj5, rfl, hre, hrm, hbj⟩ := hrel
            have HRE := Lib.hid hre
            have HRM := Lib.hid hrm
            have HBJ := Lib.hid hbj
            have WJ := Lib.hid (next_int j (by omega))
            clear hre hrm hbj HRE0 HRM0 HBM0
            by_cases hj : j = 5
            · subst hj
              have HBEJ := Lib.hid (Array.getElem?_eq_some_iff.1 HRE.out).1
              have HRE2 : Hid (wj.heap[wa.heap.size]? = some (.cells (entA ⟨modeOf wd, ⟨#[]⟩, zeros20⟩) 50 (0, 0))) := by rw [← modeUp_all]; exact HRE.out
              have hcm := range_mode (row_ent HRE2.out)
              obtain ⟨M, hM⟩ : ∃ M, modeOf wd = M := ⟨_, rfl⟩
              have HMM := Lib.hid hM
              rw [hM] at HRE2
              simp only [hM] at hcm
              clear hM HRE WJ hj5 HRM
              by_cases hM0 : M = 0
              · subst hM0
                have HBAD := Lib.hid (HBADF.out wj (no_blank (by rw [HNL.out]; exact fun j h1 h2 => HNB2.out j h1 (by have := HEN.out; omega))))
                clear HBADF
                go_wp2_with fail
                (try simp only [Exit.inBlock, Exit.then])
                go_ret2
                exact ⟨HBAD.out, HBW.out.trans (HBJ.out.mono HBW.out.size)⟩
              · have hmb : (M == 0) = false := beq_eq_false_iff_ne.2 hM0
                have HBAD := Lib.hid (HBADF.out wj (no_blank (by rw [HNL.out]; exact fun j h1 h2 => HNB2.out j h1 (by have := HEN.out; omega))))
                clear HBADF
                go_wp2_with fail
                (try simp only [Exit.inBlock, Exit.then])
                go_ret2
                exact ⟨HBAD.out, HBW.out.trans (HBJ.out.mono HBW.out.size)⟩
            · have hjl : j < 5 := by omega
              have hji : (j : Int) < 5 := by omega
              have hcj := modesA_at HRM.out j hjl
              have hco := range_mode (row_ent HRE.out)
              have hfo := frozen_of_row wj wa.heap.size 0 _ 50 HRE.out
              have HJL := Lib.hid hjl
              have HUY := Lib.hid (modeUp_yes (l := wd) (j := j))
              have HUN := Lib.hid (modeUp_no (l := wd) (j := j))
              clear hj hj5
              generalize modeAt j = z at *
              go_wp2_with fail
              clear hcj
              refine (refdigits_any z wj).mono ?_
              rintro e4 w4 ⟨rfl, hb⟩
              have HB4 := Lib.hid (HBJ.out.trans (hb.mono HBJ.out.size))
              have hre4 := (hb.block wa.heap.size (Array.getElem?_eq_some_iff.1 HRE.out).1).trans HRE.out
              have HRE4 := Lib.hid hre4
              have HRM4 := Lib.hid ((hb.block bm (Array.getElem?_eq_some_iff.1 HRM.out).1).trans HRM.out)
              have hco := range_mode (row_ent hre4)
              have hfo := frozen_of_row w4 wa.heap.size 0 _ 50 hre4
              obtain ⟨q, hq⟩ : ∃ q, (digitsL z == wd) = q := ⟨_, rfl⟩
              have HQQ := Lib.hid hq
              have HQ : Hid (∀ W, (binOp .eql 9 (.string (txt (digitsL z))) (.string (txt wd))).run Tryd.prog W = .ok (.bool q) W) := fun W => by rw [str_eql, txt_list, txt_list, ← HQQ.out]
              clear hb hre4 hq
              generalize txt (digitsL z) = D at *
              cases q
              · go_wp2_with (first
                  | refine wpList_eql (by rfl) .eql 9 _ _ _ rfl (.string D) (.string (txt wd)) rfl rfl (.bool false) (guard_eq _ _ _ _) HQ.out ?_)
                exact ⟨⟨j + 1, HJL.out, by first | rw [WJ.out _ rfl] | rfl, by rw [HUN.out HQQ.out]; exact HRE4.out, HRM4.out, HB4.out⟩, by have := HJL.out; (first | rw [WJ.out _ rfl] | skip); simp [intOf]; omega⟩
              · have HS1 : Hid ((w4.setCell ⟨wa.heap.size, 0, none⟩ (.int .i64 z)).heap[wa.heap.size]? = some (.cells (entA ⟨z, ⟨#[]⟩, zeros20⟩) 50 (0, 0))) := by
                  show _ = _
                  rw [heap_setCell_same w4 wa.heap.size 0 _ _ _ HRE4.out, entA_mode]
                have HS2 : Hid ((w4.setCell ⟨wa.heap.size, 0, none⟩ (.int .i64 z)).heap[bm]? = some (.cells modesA 3 (0, 0))) := ((grownBy_setCell' w4 wa.heap.size (.int .i64 z)).block bm (Array.getElem?_eq_some_iff.1 HRM4.out).1 (fun e => HNE.out (Option.some.inj e))).trans HRM4.out
                have HS3 : Hid (Below wa.heap.size wa (w4.setCell ⟨wa.heap.size, 0, none⟩ (.int .i64 z))) := HB4.out.setCell (Nat.le_refl _) _
                go_wp2_with (first
                  | refine wpList_eql (by rfl) .eql 9 _ _ _ rfl (.string D) (.string (txt wd)) rfl rfl (.bool true) (guard_eq _ _ _ _) HQ.out ?_)
                exact ⟨⟨j + 1, HJL.out, by first | rw [WJ.out _ rfl] | rfl, by rw [HUY.out HQQ.out]; exact HS1.out, HS2.out, HS3.out⟩, by have := HJL.out; (first | rw [WJ.out _ rfl] | skip); simp [intOf]; omega⟩
        · have hei : (e : Int) < (nl : Int) := by omega
          have hei2 : ¬ (nl : Int) ≤ (e : Int) := by omega
          have HEL := Lib.hid (show e < nl by omega)
          have HGE : Hid (L[e]? = some (L[e]?.getD 0)) := by show _ = _; rw [List.getElem?_eq_getElem (by rw [HNL.out]; exact HEL.out)]; rfl
          have hce := HC.out e HEL.out wi (HBW.out.trans (HBI.out.mono HBW.out.size))
          obtain ⟨c, hc⟩ : ∃ c, L[e]?.getD 0 = c := ⟨_, rfl⟩
          have HLE := Lib.hid hc
          rw [hc] at hce HGE
          obtain ⟨wd, hwd⟩ : ∃ l, (L.drop k).take (e - k) = l := ⟨_, rfl⟩
          have HWD := Lib.hid hwd
          have HWM0 := Lib.hid (word_more (c := c) hke HGE.out)
          rw [hwd] at HWZ HWM0 ⊢
          have H7E := Lib.hid he7
          clear hee hen hke he7 hc hwd
          by_cases hc32 : c = 32
          · subst hc32
            have hce : wi.cell? ⟨b, off + e, none⟩ = some (.int .u8 32) := hce
            have H32 := Lib.hid HGE.out
            clear HGE HWM0
            have hwm : wi.alloc (.cells #[.int .i64 16384, .int .i64 33188, .int .i64 33261, .int .i64 40960, .int .i64 57344] 3) = wi.alloc (.cells modesA 3) := rfl
            have HBM0 : Hid (Below wa.heap.size wa (wi.alloc (.cells modesA 3))) := HBI.out.alloc HBI.out.size _
            have HRM0 : Hid ((wi.alloc (.cells modesA 3)).heap[wi.heap.size]? = some (.cells modesA 3 (0, 0))) := heap_alloc_new _ _
            have HRE0 : Hid ((wi.alloc (.cells modesA 3)).heap[wa.heap.size]? = some (.cells (entA noEnt) 50 (0, 0))) := (Below.heap_alloc _ _ _ (HBEI.out)).trans HREI.out
            have HWM := Lib.hid hwm
            have HNE : Hid (wi.heap.size ≠ wa.heap.size) := by have := HBEI.out; show _ ≠ _; omega
            clear hwm
            go_wp2_with fail
            rw [HWM.out]
            clear HWM HREI
            obtain ⟨bm, hbm⟩ : ∃ b, wi.heap.size = b := ⟨_, rfl⟩
            rw [hbm] at HRM0 HNE ⊢
            clear hbm
            have HBEI0 : Hid (wa.heap.size < (wi.alloc (.cells modesA 3)).heap.size) := by have := HBEI.out; show _ < _; simp; omega
            generalize wi.alloc (.cells modesA 3) = w3 at *
            go_loopw [44] (fun i wj => ∃ j : Nat, j ≤ 5 ∧ i = .int .i64 (j : Int) ∧ wj.heap[wa.heap.size]? = some (.cells (entA ⟨modeUp wd j, ⟨#[]⟩, zeros20⟩) 50 (0, 0)) ∧ wj.heap[bm]? = some (.cells modesA 3 (0, 0)) ∧ Below wa.heap.size wa wj) (fun i _ => 5 - (intOf i).toNat)
            case atStart => exact ⟨0, by omega, rfl, HRE0.out, HRM0.out, HBM0.out⟩
            case round =>
              rename World => wj
              obtain ⟨j, hj5, rfl, hre, hrm, hbj⟩ := hrel
              have HRE := Lib.hid hre
              have HRM := Lib.hid hrm
              have HBJ := Lib.hid hbj
              have WJ := Lib.hid (next_int j (by omega))
              clear hre hrm hbj HRE0 HRM0 HBM0
              by_cases hj : j = 5
              · subst hj
                have HBEJ := Lib.hid (Array.getElem?_eq_some_iff.1 HRE.out).1
                have HRE2 : Hid (wj.heap[wa.heap.size]? = some (.cells (entA ⟨modeOf wd, ⟨#[]⟩, zeros20⟩) 50 (0, 0))) := by rw [← modeUp_all]; exact HRE.out
                have hcm := range_mode (row_ent HRE2.out)
                obtain ⟨M, hM⟩ : ∃ M, modeOf wd = M := ⟨_, rfl⟩
                have HMM := Lib.hid hM
                rw [hM] at HRE2
                simp only [hM] at hcm
                clear hM HRE WJ hj5 HRM
                by_cases hM0 : M = 0
                · subst hM0
                  have HBAD := Lib.hid (HBADF.out wj (word_mode HKE.out H32.out HNB2.out (by rw [HWD.out, HMM.out])))
                  clear HBADF
                  go_wp2_with fail
                  (try simp only [Exit.inBlock, Exit.then])
                  go_ret2
                  exact ⟨HBAD.out, HBW.out.trans (HBJ.out.mono HBW.out.size)⟩
                · have hmb : (M == 0) = false := beq_eq_false_iff_ne.2 hM0
                  have HMZ := Lib.hid hM0
                  have hce := HC.out e HEL.out wj (HBW.out.trans (HBJ.out.mono HBW.out.size))
                  rw [H32.out] at hce
                  have hce : wj.cell? ⟨b, off + e, none⟩ = some (.int .u8 32) := hce
                  clear hM0
                  go_wp2_with fail
                  clear hce hcm hmb hei hei2
                  obtain ⟨f, hf⟩ : ∃ f, e + 1 = f := ⟨_, rfl⟩
                  have HF := Lib.hid hf
                  (try rw [WE.out _ rfl])
                  (try rw [show (e : Int) + 1 = ((e + 1 : Nat) : Int) by omega])
                  rw [hf]
                  have HE1 : Hid (f ≤ nl) := by have := HEL.out; show _ ≤ _; omega
                  clear hf
                  go_loop [5] (fun i => ∃ z : Nat, f ≤ z ∧ z ≤ nl ∧ i = .int .i64 (z : Int) ∧ ∀ j, f ≤ j → j < z → L[j]? ≠ some 0) (fun i => nl - (intOf i).toNat)
                  case atStart => exact ⟨f, Nat.le_refl _, HE1.out, rfl, fun j h1 h2 => by omega⟩
                  case round =>
                    obtain ⟨z, hfz, hzn, rfl, hno0⟩ := hrel
                    have HN0 := Lib.hid hno0
                    have HFZ := Lib.hid hfz
                    have WZ := Lib.hid (next_int z (by have := HNLB.out; omega))
                    clear hno0 hfz
                    by_cases hzz : z = nl
                    · have hzi : ¬ (z : Int) < (nl : Int) := by omega
                      have hzi2 : (nl : Int) ≤ (z : Int) := by omega
                      have HBAD := Lib.hid (HBADF.out wj (no_name HKE.out H32.out HNB2.out (fun j h1 h2 => HN0.out j (by have := HF.out; omega) (by have := HNL.out; omega))))
                      clear HBADF hzz hzn
                      go_wp2_with fail
                      (try simp only [Exit.inBlock, Exit.then])
                      go_ret2
                      exact ⟨HBAD.out, HBW.out.trans (HBJ.out.mono HBW.out.size)⟩
                    · have hzl : z < nl := by omega
                      have hzi : (z : Int) < (nl : Int) := by omega
                      have hzi2 : ¬ (nl : Int) ≤ (z : Int) := by omega
                      have hcz := HC.out z hzl wj (HBW.out.trans (HBJ.out.mono HBW.out.size))
                      have HZL := Lib.hid hzl
                      have HGZ : Hid (L[z]? = some (L[z]?.getD 0)) := by show _ = _; rw [List.getElem?_eq_getElem (by rw [HNL.out]; exact hzl)]; rfl
                      clear hzz hzn hzl
                      obtain ⟨cz, hcz2⟩ : ∃ c, L[z]?.getD 0 = c := ⟨_, rfl⟩
                      rw [hcz2] at hcz HGZ
                      clear hcz2
                      by_cases hc0 : cz = 0
                      · subst hc0
                        have hcz : wj.cell? ⟨b, off + z, none⟩ = some (.int .u8 0) := hcz
                        have HEH := Lib.hid (ent_here HKE.out H32.out HNB2.out (by rw [HF.out]; exact HFZ.out) HGZ.out (fun j h1 h2 => HN0.out j (by have := HF.out; omega) h2))
                        have wsz : wrap64 ((nl : Int) - (z : Int)) = ((nl - z : Nat) : Int) := by
                          rw [show (nl : Int) - (z : Int) = ((nl - z : Nat) : Int) by omega]
                          exact IntWalk.wrap64_in _ (by have := HNLB.out; omega)
                        by_cases h21 : nl - z < 21
                        · have hdi : ((nl - z : Nat) : Int) < 21 := by omega
                          have HBAD := Lib.hid (HBADF.out wj (by rw [HEH.out.1, HNL.out, decide_eq_false (by omega)]; simp))
                          clear HBADF HEH h21
                          generalize nl - z = dd at *
                          go_wp2_with fail
                          (try simp only [Exit.inBlock, Exit.then])
                          go_ret2
                          exact ⟨HBAD.out, HBW.out.trans (HBJ.out.mono HBW.out.size)⟩
                        · have hdi : ¬ ((nl - z : Nat) : Int) < 21 := by omega
                          have H21 : Hid (z + 21 ≤ nl) := by show _ ≤ _; omega
                          have H21L : Hid (21 ≤ L.length - z) := by show _ ≤ _; rw [HNL.out]; omega
                          have HOK : Hid (entT (L.drop k) = true) := by
                            show _ = _
                            rw [HEH.out.1, HWD.out, HMM.out, beq_eq_false_iff_ne.2 HMZ.out, decide_eq_true H21L.out]; rfl
                          have HIS0 := HEH.out.2.1
                          rw [HWD.out, HMM.out] at HIS0
                          have HIS := Lib.hid HIS0
                          have HRS := Lib.hid HEH.out.2.2
                          clear h21 HEH HBADF HIS0
                          generalize nl - z = dd at *
                          have RJ := R0.out.below (HBW.out.trans (HBJ.out.mono HBW.out.size))
                          have hsl := fun W => slice_sub (some ⟨b, off, none⟩) nl cap f z HFZ.out (by have := HZL.out; have := RJ.le; omega) W
                          have htx := text_run wj _ _ (cap - f) _ (RJ.bytes.part cap f z HFZ.out (by have := HZL.out; omega) RJ.le)
                          rw [part_txt] at htx
                          rw [HF.out] at HIS
                          obtain ⟨NM, hNM⟩ : ∃ s, txt ((L.drop f).take (z - f)) = s := ⟨_, rfl⟩
                          rw [hNM] at htx HIS
                          obtain ⟨sa, hsa⟩ : ∃ x, subA (some ⟨b, off, none⟩) cap f = x := ⟨_, rfl⟩
                          obtain ⟨n1, hn1⟩ : ∃ x, z - f = x := ⟨_, rfl⟩
                          obtain ⟨c1, hc1⟩ : ∃ x, cap - f = x := ⟨_, rfl⟩
                          rw [hsa, hn1, hc1] at htx
                          simp only [hsa, hn1, hc1] at hsl
                          have hco1 := range_name (row_ent HRE2.out)
                          have hfo1 := frozen_of_row wj wa.heap.size 1 _ 50 HRE2.out
                          have HS1 : Hid ((wj.setCell ⟨wa.heap.size, 1, none⟩ (.string NM)).heap[wa.heap.size]? = some (.cells (entA ⟨M, NM, zeros20⟩) 50 (0, 0))) := by
                            show _ = _
                            rw [heap_setCell_same wj wa.heap.size 1 _ _ _ HRE2.out, entA_name]
                          have HB1 : Hid (Below wa.heap.size wa (wj.setCell ⟨wa.heap.size, 1, none⟩ (.string NM))) := HBJ.out.setCell (Nat.le_refl _) _
                          have hzi2' := hzi2
                          clear RJ hNM hsa hn1 hc1
                          go_wp2_with fail
                          clear hsl htx hco1 hfo1 hcz hdi wsz hzi hzi2 hzi2'
                          (try rw [WZ.out _ rfl])
                          (try rw [show (z : Int) + 1 = ((z + 1 : Nat) : Int) by omega])
                          obtain ⟨g, hg⟩ : ∃ g, z + 1 = g := ⟨_, rfl⟩
                          have HG := Lib.hid hg
                          rw [hg]
                          clear hg HRE2
                          generalize wj.setCell ⟨wa.heap.size, 1, none⟩ (.string NM) = w5 at *
                          go_loopw [11] (fun i wq => ∃ ii : Nat, ii ≤ 20 ∧ i = .int .i64 (ii : Int) ∧ wq.heap[wa.heap.size]? = some (.cells (entA ⟨M, NM, idUp L z ii⟩) 50 (0, 0)) ∧ Below wa.heap.size wa wq) (fun i _ => 20 - (intOf i).toNat)
                          case atStart => exact ⟨0, by omega, rfl, HS1.out, HB1.out⟩
                          case round =>
                            rename World => wq
                            obtain ⟨ii, hi20, rfl, hrq, hbq⟩ := hrel
                            have HRQ := Lib.hid hrq
                            have HBQ := Lib.hid hbq
                            have WI := Lib.hid (next_int ii (by omega))
                            clear hrq hbq HS1 HB1
                            by_cases h20 : ii = 20
                            · subst h20
                              obtain ⟨X, hX⟩ : ∃ X : TE, (⟨M, NM, idUp L z 20⟩ : TE) = X := ⟨_, rfl⟩
                              have HXI : Hid (isT (L.drop k) = X) := by show _ = _; rw [HIS.out, ← hX, idUp_all H21L.out]
                              have HX20 : Hid (X.n.length = 20) := by show _ = _; rw [← hX]; exact idUp_len H21L.out 20 (by omega)
                              rw [hX] at HRQ
                              have HRX := Lib.hid (row_ent HRQ.out)
                              have HBWQ := Lib.hid (HBW.out.trans (HBQ.out.mono HBW.out.size))
                              have HBX : Hid (Below w.heap.size w (wq.alloc (.cells (entA X) 50))) := HBWQ.out.alloc HBWQ.out.size _
                              have HOX := Lib.hid ((HO.out.below HBQ.out).below ((Below.refl wq.heap.size wq).alloc (Nat.le_refl _) (.cells (entA X) 50)))
                              have HPQ : Hid (entsT L = (entsT (L.drop (z + 21))).map ((acc ++ [X]) ++ ·)) := by
                                show _ = _
                                rw [HPR.out, ents_step HOK.out, HXI.out, HRS.out, Option.map_map]
                                congr 1
                                funext x
                                simp
                              have HAX : Hid (22 * (acc ++ [X]).length ≤ z + 21) := by
                                show _ ≤ _
                                rw [List.length_append, HM.out, List.length_singleton]
                                have h1 := HSZ0.out; have h2 := HKE.out; have h3 := HFZ.out; have h4 := HF.out
                                omega
                              have WG := Lib.hid (add_20 g z (by have := HG.out; omega) (by have := HZL.out; have := HNLB.out; omega))
                              have HG20 : Hid (g + 20 = z + 21) := by have := HG.out; show _ = _; omega
                              clear hX hi20 WI HRQ
                              go_wp2_with (first
                                | refine wpList_load_mid rfl 50 _ rfl wa.heap.size 0 rfl (entL X) _ HRX.out Tryd.underlying50 rfl (rent_infoL X HX20.out) ?_
                                | refine wpList_slice rfl 27 1 #[(0, _)] rfl #[(0, .agg (entA X))] (map_one _ _ _ rfl) _ _ (slice_rent X HX20.out wq) ?_
                                | (refine wpList_append_rent rfl _ _ rfl w.heap.size (.slice la mm lc) acc mm HM.out rfl HOX.out wq.heap.size X HX20.out rfl (box_ent wq X _) (by have := HMB.out; omega) HBX.out.size (fun g2 gc2 w7 ho7 hg7 => ?_)
                                   have HO7 := Lib.hid ho7
                                   have HB7 := Lib.hid (HBX.out.trans (own_off HOX.out HBX.out.size hg7))
                                   clear ho7 hg7))
                              exact ⟨⟨acc ++ [X], z + 21, HO7.out, by first | rw [WG.out _ rfl] | (rw [← HG20.out]; rfl), by have := H21.out; omega, HAX.out, HPQ.out, HB7.out⟩, by have h1 := H21.out; have h2 := HKE.out; have h3 := HFZ.out; have h4 := HF.out; (first | rw [WG.out _ rfl] | (rw [show (g : Int) + 20 = ((g + 20 : Nat) : Int) by omega, HG20.out])); simp [intOf]; omega⟩
                            · have hil : ii < 20 := by omega
                              have hii : (ii : Int) < 20 := by omega
                              obtain ⟨q, hq⟩ : ∃ q, g + ii = q := ⟨_, rfl⟩
                              have hqn : q < nl := by have := H21.out; have := HG.out; omega
                              have hqi : (q : Int) < (nl : Int) := by omega
                              have hcq := HC.out q hqn wq (HBW.out.trans (HBQ.out.mono HBW.out.size))
                              have wgi : wrap64 ((g : Int) + (ii : Int)) = (q : Int) := by
                                rw [show (g : Int) + (ii : Int) = (q : Int) by omega]
                                exact IntWalk.wrap64_in _ (by have := HNLB.out; omega)
                              have HST := Lib.hid (idUp_set (l := L) (z := z) H21L.out ii hil)
                              rw [show z + 1 + ii = q by have := HG.out; omega] at HST
                              have hilen := idUp_len H21L.out ii hi20
                              obtain ⟨ov, ho⟩ : ∃ ov, wq.cell? ⟨wa.heap.size, 2 + ii, none⟩ = some ov := ⟨_, by rw [cell_of_row _ _ _ _ _ _ HRQ.out, Array.getElem?_eq_getElem (by rw [entA_size _ hilen]; omega)]⟩
                              have hfo := frozen_of_row wq wa.heap.size (2 + ii) _ 50 HRQ.out
                              have HIL := Lib.hid hil
                              obtain ⟨cv, hcv⟩ : ∃ c : Int, ((L[q]?.getD 0).toNat : Int) = c := ⟨_, rfl⟩
                              rw [hcv] at hcq HST
                              have HSQ : Hid ((wq.setCell ⟨wa.heap.size, 2 + ii, none⟩ (.int .u8 cv)).heap[wa.heap.size]? = some (.cells (entA ⟨M, NM, idUp L z (ii + 1)⟩) 50 (0, 0))) := by
                                show _ = _
                                rw [heap_setCell_same wq wa.heap.size (2 + ii) _ _ _ HRQ.out, entA_id, HST.out]
                              have HBS : Hid (Below wa.heap.size wa (wq.setCell ⟨wa.heap.size, 2 + ii, none⟩ (.int .u8 cv))) := HBQ.out.setCell (Nat.le_refl _) _
                              clear h20 hil hi20 hq hqn hilen hcv
                              go_wp2_with fail
                              exact ⟨⟨ii + 1, HIL.out, by first | rw [WI.out _ rfl] | rfl, HSQ.out, HBS.out⟩, by have := HIL.out; (first | rw [WI.out _ rfl] | skip); simp [intOf]; omega⟩
                      · have HZ0 : Hid (L[z]? ≠ some 0) := by
                          show _ ≠ _
                          rw [HGZ.out]
                          exact fun h => hc0 (Option.some.inj h)
                        have hcb : ¬ ((cz.toNat : Nat) : Int) = 0 := fun h => hc0 (UInt8.toNat_inj.1 (by show cz.toNat = 0; omega))
                        have hcb2 : (((cz.toNat : Nat) : Int) != 0) = true := by simp; exact fun h => hcb (by rw [h]; rfl)
                        have HN02 : Hid (∀ j, f ≤ j → j < z + 1 → L[j]? ≠ some 0) := fun j h1 h2 => by
                          by_cases hj : j = z
                          · rw [hj]; exact HZ0.out
                          · exact HN0.out j h1 (by omega)
                        clear HGZ hc0
                        generalize ((cz.toNat : Nat) : Int) = ci at *
                        go_wp2_with fail
                        exact ⟨⟨z + 1, by have := HFZ.out; omega, HZL.out, by first | rw [WZ.out _ rfl] | rfl, HN02.out⟩, by have := HZL.out; (first | rw [WZ.out _ rfl] | skip); simp [intOf]; omega⟩
              · have hjl : j < 5 := by omega
                have hji : (j : Int) < 5 := by omega
                have hcj := modesA_at HRM.out j hjl
                have hco := range_mode (row_ent HRE.out)
                have hfo := frozen_of_row wj wa.heap.size 0 _ 50 HRE.out
                have HJL := Lib.hid hjl
                have HUY := Lib.hid (modeUp_yes (l := wd) (j := j))
                have HUN := Lib.hid (modeUp_no (l := wd) (j := j))
                clear hj hj5
                generalize modeAt j = z at *
                go_wp2_with fail
                clear hcj
                refine (refdigits_any z wj).mono ?_
                rintro e4 w4 ⟨rfl, hb⟩
                have HB4 := Lib.hid (HBJ.out.trans (hb.mono HBJ.out.size))
                have hre4 := (hb.block wa.heap.size (Array.getElem?_eq_some_iff.1 HRE.out).1).trans HRE.out
                have HRE4 := Lib.hid hre4
                have HRM4 := Lib.hid ((hb.block bm (Array.getElem?_eq_some_iff.1 HRM.out).1).trans HRM.out)
                have hco := range_mode (row_ent hre4)
                have hfo := frozen_of_row w4 wa.heap.size 0 _ 50 hre4
                obtain ⟨q, hq⟩ : ∃ q, (digitsL z == wd) = q := ⟨_, rfl⟩
                have HQQ := Lib.hid hq
                have HQ : Hid (∀ W, (binOp .eql 9 (.string (txt (digitsL z))) (.string (txt wd))).run Tryd.prog W = .ok (.bool q) W) := fun W => by rw [str_eql, txt_list, txt_list, ← HQQ.out]
                clear hb hre4 hq
                generalize txt (digitsL z) = D at *
                cases q
                · go_wp2_with (first
                    | refine wpList_eql (by rfl) .eql 9 _ _ _ rfl (.string D) (.string (txt wd)) rfl rfl (.bool false) (guard_eq _ _ _ _) HQ.out ?_)
                  exact ⟨⟨j + 1, HJL.out, by first | rw [WJ.out _ rfl] | rfl, by rw [HUN.out HQQ.out]; exact HRE4.out, HRM4.out, HB4.out⟩, by have := HJL.out; (first | rw [WJ.out _ rfl] | skip); simp [intOf]; omega⟩
                · have HS1 : Hid ((w4.setCell ⟨wa.heap.size, 0, none⟩ (.int .i64 z)).heap[wa.heap.size]? = some (.cells (entA ⟨z, ⟨#[]⟩, zeros20⟩) 50 (0, 0))) := by
                    show _ = _
                    rw [heap_setCell_same w4 wa.heap.size 0 _ _ _ HRE4.out, entA_mode]
                  have HS2 : Hid ((w4.setCell ⟨wa.heap.size, 0, none⟩ (.int .i64 z)).heap[bm]? = some (.cells modesA 3 (0, 0))) := ((grownBy_setCell' w4 wa.heap.size (.int .i64 z)).block bm (Array.getElem?_eq_some_iff.1 HRM4.out).1 (fun e => HNE.out (Option.some.inj e))).trans HRM4.out
                  have HS3 : Hid (Below wa.heap.size wa (w4.setCell ⟨wa.heap.size, 0, none⟩ (.int .i64 z))) := HB4.out.setCell (Nat.le_refl _) _
                  go_wp2_with (first
                    | refine wpList_eql (by rfl) .eql 9 _ _ _ rfl (.string D) (.string (txt wd)) rfl rfl (.bool true) (guard_eq _ _ _ _) HQ.out ?_)
                  exact ⟨⟨j + 1, HJL.out, by first | rw [WJ.out _ rfl] | rfl, by rw [HUY.out HQQ.out]; exact HS1.out, HS2.out, HS3.out⟩, by have := HJL.out; (first | rw [WJ.out _ rfl] | skip); simp [intOf]; omega⟩
          · have hcb : ¬ ((c.toNat : Nat) : Int) = 32 := fun h => hc32 (UInt8.toNat_inj.1 (by show c.toNat = 32; omega))
            have hcb2 : (((c.toNat : Nat) : Int) != 32) = true := bne_iff_ne.2 hcb
            by_cases h7 : e = k + 7
            · have H7 := Lib.hid h7
              have hlen : ¬ ((txt wd).size : Int) < 7 := by rw [HWZ.out]; omega
              clear h7 hc32 HWM0
              have hwm : wi.alloc (.cells #[.int .i64 16384, .int .i64 33188, .int .i64 33261, .int .i64 40960, .int .i64 57344] 3) = wi.alloc (.cells modesA 3) := rfl
              have HBM0 : Hid (Below wa.heap.size wa (wi.alloc (.cells modesA 3))) := HBI.out.alloc HBI.out.size _
              have HRM0 : Hid ((wi.alloc (.cells modesA 3)).heap[wi.heap.size]? = some (.cells modesA 3 (0, 0))) := heap_alloc_new _ _
              have HRE0 : Hid ((wi.alloc (.cells modesA 3)).heap[wa.heap.size]? = some (.cells (entA noEnt) 50 (0, 0))) := (Below.heap_alloc _ _ _ (HBEI.out)).trans HREI.out
              have HWM := Lib.hid hwm
              have HNE : Hid (wi.heap.size ≠ wa.heap.size) := by have := HBEI.out; show _ ≠ _; omega
              clear hwm
              go_wp2_with fail
              rw [HWM.out]
              clear HWM HREI
              obtain ⟨bm, hbm⟩ : ∃ b, wi.heap.size = b := ⟨_, rfl⟩
              rw [hbm] at HRM0 HNE ⊢
              clear hbm
              have HBEI0 : Hid (wa.heap.size < (wi.alloc (.cells modesA 3)).heap.size) := by have := HBEI.out; show _ < _; simp; omega
              generalize wi.alloc (.cells modesA 3) = w3 at *
              go_loopw [44] (fun i wj => ∃ j : Nat, j ≤ 5 ∧ i = .int .i64 (j : Int) ∧ wj.heap[wa.heap.size]? = some (.cells (entA ⟨modeUp wd j, ⟨#[]⟩, zeros20⟩) 50 (0, 0)) ∧ wj.heap[bm]? = some (.cells modesA 3 (0, 0)) ∧ Below wa.heap.size wa wj) (fun i _ => 5 - (intOf i).toNat)
              case atStart => exact ⟨0, by omega, rfl, HRE0.out, HRM0.out, HBM0.out⟩
              case round =>
                rename World => wj
                obtain ⟨j, hj5, rfl, hre, hrm, hbj⟩ := hrel
                have HRE := Lib.hid hre
                have HRM := Lib.hid hrm
                have HBJ := Lib.hid hbj
                have WJ := Lib.hid (next_int j (by omega))
                clear hre hrm hbj HRE0 HRM0 HBM0
                by_cases hj : j = 5
                · subst hj
                  have HBEJ := Lib.hid (Array.getElem?_eq_some_iff.1 HRE.out).1
                  have HRE2 : Hid (wj.heap[wa.heap.size]? = some (.cells (entA ⟨modeOf wd, ⟨#[]⟩, zeros20⟩) 50 (0, 0))) := by rw [← modeUp_all]; exact HRE.out
                  have hcm := range_mode (row_ent HRE2.out)
                  obtain ⟨M, hM⟩ : ∃ M, modeOf wd = M := ⟨_, rfl⟩
                  have HMM := Lib.hid hM
                  rw [hM] at HRE2
                  simp only [hM] at hcm
                  clear hM HRE WJ hj5 HRM
                  by_cases hM0 : M = 0
                  · subst hM0
                    have HBAD := Lib.hid (HBADF.out wj (far_blank H7.out HNB2.out))
                    clear HBADF
                    go_wp2_with fail
                    (try simp only [Exit.inBlock, Exit.then])
                    go_ret2
                    exact ⟨HBAD.out, HBW.out.trans (HBJ.out.mono HBW.out.size)⟩
                  · have hmb : (M == 0) = false := beq_eq_false_iff_ne.2 hM0
                    have HBAD := Lib.hid (HBADF.out wj (far_blank H7.out HNB2.out))
                    clear HBADF
                    have hce := HC.out e HEL.out wj (HBW.out.trans (HBJ.out.mono HBW.out.size))
                    rw [HLE.out] at hce
                    go_wp2_with fail
                    (try simp only [Exit.inBlock, Exit.then])
                    go_ret2
                    exact ⟨HBAD.out, HBW.out.trans (HBJ.out.mono HBW.out.size)⟩
                · have hjl : j < 5 := by omega
                  have hji : (j : Int) < 5 := by omega
                  have hcj := modesA_at HRM.out j hjl
                  have hco := range_mode (row_ent HRE.out)
                  have hfo := frozen_of_row wj wa.heap.size 0 _ 50 HRE.out
                  have HJL := Lib.hid hjl
                  have HUY := Lib.hid (modeUp_yes (l := wd) (j := j))
                  have HUN := Lib.hid (modeUp_no (l := wd) (j := j))
                  clear hj hj5
                  generalize modeAt j = z at *
                  go_wp2_with fail
                  clear hcj
                  refine (refdigits_any z wj).mono ?_
                  rintro e4 w4 ⟨rfl, hb⟩
                  have HB4 := Lib.hid (HBJ.out.trans (hb.mono HBJ.out.size))
                  have hre4 := (hb.block wa.heap.size (Array.getElem?_eq_some_iff.1 HRE.out).1).trans HRE.out
                  have HRE4 := Lib.hid hre4
                  have HRM4 := Lib.hid ((hb.block bm (Array.getElem?_eq_some_iff.1 HRM.out).1).trans HRM.out)
                  have hco := range_mode (row_ent hre4)
                  have hfo := frozen_of_row w4 wa.heap.size 0 _ 50 hre4
                  obtain ⟨q, hq⟩ : ∃ q, (digitsL z == wd) = q := ⟨_, rfl⟩
                  have HQQ := Lib.hid hq
                  have HQ : Hid (∀ W, (binOp .eql 9 (.string (txt (digitsL z))) (.string (txt wd))).run Tryd.prog W = .ok (.bool q) W) := fun W => by rw [str_eql, txt_list, txt_list, ← HQQ.out]
                  clear hb hre4 hq
                  generalize txt (digitsL z) = D at *
                  cases q
                  · go_wp2_with (first
                      | refine wpList_eql (by rfl) .eql 9 _ _ _ rfl (.string D) (.string (txt wd)) rfl rfl (.bool false) (guard_eq _ _ _ _) HQ.out ?_)
                    exact ⟨⟨j + 1, HJL.out, by first | rw [WJ.out _ rfl] | rfl, by rw [HUN.out HQQ.out]; exact HRE4.out, HRM4.out, HB4.out⟩, by have := HJL.out; (first | rw [WJ.out _ rfl] | skip); simp [intOf]; omega⟩
                  · have HS1 : Hid ((w4.setCell ⟨wa.heap.size, 0, none⟩ (.int .i64 z)).heap[wa.heap.size]? = some (.cells (entA ⟨z, ⟨#[]⟩, zeros20⟩) 50 (0, 0))) := by
                      show _ = _
                      rw [heap_setCell_same w4 wa.heap.size 0 _ _ _ HRE4.out, entA_mode]
                    have HS2 : Hid ((w4.setCell ⟨wa.heap.size, 0, none⟩ (.int .i64 z)).heap[bm]? = some (.cells modesA 3 (0, 0))) := ((grownBy_setCell' w4 wa.heap.size (.int .i64 z)).block bm (Array.getElem?_eq_some_iff.1 HRM4.out).1 (fun e => HNE.out (Option.some.inj e))).trans HRM4.out
                    have HS3 : Hid (Below wa.heap.size wa (w4.setCell ⟨wa.heap.size, 0, none⟩ (.int .i64 z))) := HB4.out.setCell (Nat.le_refl _) _
                    go_wp2_with (first
                      | refine wpList_eql (by rfl) .eql 9 _ _ _ rfl (.string D) (.string (txt wd)) rfl rfl (.bool true) (guard_eq _ _ _ _) HQ.out ?_)
                    exact ⟨⟨j + 1, HJL.out, by first | rw [WJ.out _ rfl] | rfl, by rw [HUY.out HQQ.out]; exact HS1.out, HS2.out, HS3.out⟩, by have := HJL.out; (first | rw [WJ.out _ rfl] | skip); simp [intOf]; omega⟩
            · have hlen : ((txt wd).size : Int) < 7 := by rw [HWZ.out]; have := H7E.out; have := HKE.out; omega
              have hbl := fun W => text_one W c
              have hbl := hbl wi
              have hadd := add_str (txt wd) (txt [c]) (by rw [HWZ.out, txt_size]; have := H7E.out; simp; omega)
              rw [HWM0.out] at hadd
              have HNX : Hid (∀ j, k ≤ j → j < e + 1 → L[j]? ≠ some 32) := fun j h1 h2 => by
                by_cases hj : j = e
                · rw [hj, HGE.out]; exact fun h => hc32 (Option.some.inj h)
                · exact HNB2.out j h1 (by omega)
              have H7F : Hid (e + 1 ≤ k + 7) := by show _ ≤ _; have := H7E.out; omega
              have HRN : Hid ((wi.alloc (.cells #[.int .u8 (c.toNat : Int)] 5)).heap[wa.heap.size]? = some (.cells (entA noEnt) 50 (0, 0))) := (Below.heap_alloc _ _ _ (HBEI.out)).trans HREI.out
              have HBN : Hid (Below wa.heap.size wa (wi.alloc (.cells #[.int .u8 (c.toNat : Int)] 5))) := HBI.out.alloc HBI.out.size _
              clear h7 hc32 HWM0 HGE
              obtain ⟨W2, hW2⟩ : ∃ s, txt ((L.drop k).take (e + 1 - k)) = s := ⟨_, rfl⟩
              have HW2 := Lib.hid hW2
              rw [hW2] at hadd
              clear hW2
              go_wp2_with fail
              exact ⟨⟨e + 1, by have := HKE.out; omega, HEL.out, H7F.out, by first | rw [WE.out _ rfl] | rfl, by rw [HW2.out], HNX.out, HRN.out, HBN.out⟩, by have := HEL.out; (first | rw [WE.out _ rfl] | skip); simp [intOf]; omega⟩
end Go.Proofs.YtnbkjdakofeeaaaDoor
