/- The document's Parse of files: the walk. -/
import Derived.Test.YtcccnnmcmeoajaaDoorMfRefMath
namespace Go.Proofs.YtcccnnmcmeoajaaDoor
open Go.RowKit Plain
set_option linter.unusedVariables false
set_option linter.unusedSimpArgs false
theorem slice_txt (l : List UInt8) (lo hi : Nat) (h1 : lo ≤ hi) (h2 : hi ≤ l.length) (y x : Int) (hy : y = (lo : Int)) (hx : x = (hi : Int)) (w : World) : (Instr.slice 9 (.string (txt l)) (some (.int .i64 y)) (some (.int .i64 x)) none).run Tryd.prog w = .ok (.string (txt ((l.drop lo).take (hi - lo)))) w := by
  subst hx hy
  have ht := Tryd.underlying9
  have h3 : hi ≤ (txt l).size := by rw [txt_size]; exact h2
  have e : (txt l).extract lo hi = txt ((l.drop lo).take (hi - lo)) := by
    apply ByteArray.ext
    apply Array.toList_inj.1
    rw [txt_list]
    simp [txt, List.extract_eq_take_drop]
  simp [Instr.slice, run_underlying ht, Instr.sliceBounds, run_sliceBound, h1, h3, e]
theorem at8_get (l : List UInt8) (i : Nat) (c : UInt8) (h : i < l.length) : l[i]? = some c ↔ at8 (txt l) i = c.toNat := by
  rw [at8_txt, List.getElem?_eq_getElem h, Option.getD_some, Option.some_inj]
  exact ⟨fun e => by rw [e], fun e => UInt8.toNat_inj.1 e⟩
/-- What the document's Parse answers. -/
def RfParse (base : Nat) (e : Ending) (w' : World) : Option (List MF) → Prop
  | none => e = .returned (.tuple #[.slice none 0 0, .bool false])
  | some xs => ∃ a c, e = .returned (.tuple #[.slice a xs.length c, .bool true]) ∧ OwnF 42 w' base (.slice a xs.length c) xs
theorem RfParse.good {base m : Nat} {w' : World} {xs : List MF} {a : Option Addr} {c : Nat} (hm : xs.length = m) (ho : OwnF 42 w' base (.slice a m c) xs) : RfParse base (.returned (.tuple #[.slice a m c, .bool true])) w' (some xs) := by
  subst hm
  exact ⟨a, c, rfl, ho⟩
set_option maxRecDepth 100000 in
set_option maxHeartbeats 32000000 in
theorem rfparse_any (L0 : List UInt8) (w : World) (hn : L0.length ≤ 4200000) :
    Calls Tryd.prog 14 #[.string (txt L0)] w fun e w' => RfParse w.heap.size e w' (readL L0) ∧ Below w.heap.size w w' := by
  obtain ⟨nl, hnl⟩ : ∃ n, L0.length = n := ⟨_, rfl⟩
  have HNL := Lib.hid hnl
  have hts : (txt L0).size = nl := by rw [txt_size, hnl]
  have HNB : Hid (nl ≤ 4200000) := by show _ ≤ _; omega
  clear hn hnl
  go_enter Tryd.func14, Tryd.ntmps14
  go_wp2_with fail
  go_loopw [4, 5] (fun l r wr => ∃ (acc : List MF) (k : Nat), OwnF 42 wr w.heap.size l acc ∧ r = .int .i64 (k : Int) ∧ k ≤ nl ∧ 42 * acc.length ≤ k ∧ refL L0 = (refL (L0.drop k)).map (acc ++ ·) ∧ Below w.heap.size w wr) (fun _ r _ => nl - (intOf r).toNat)
  case atStart => exact ⟨[], 0, OwnF.nil _ _ _, rfl, by omega, by show 42 * 0 ≤ 0; omega, by (show refL L0 = (refL L0).map _; cases refL L0 with | none => rfl | some x => rfl), Below.refl _ _⟩
  case round =>
    obtain ⟨acc, k, hown, rfl, hkn, hsz, hpr, hb⟩ := hrel
    obtain ⟨la, lc, rfl⟩ := hown.shape
    have HO := Lib.hid hown
    have HPR := Lib.hid hpr
    have HSZ0 := Lib.hid hsz
    have HBW := Lib.hid hb
    obtain ⟨m, hm⟩ : ∃ m, acc.length = m := ⟨_, rfl⟩
    rw [hm] at HO HSZ0 ⊢
    have HM := Lib.hid hm
    have HMB : Hid (m ≤ 100000) := by show _ ≤ _; have := HNB.out; omega
    clear hown hpr hsz hb
    by_cases hL : k = nl
    · subst hL
      have hki : ¬ (k : Int) < (k : Int) := by omega
      have HPR2 : Hid (refL L0 = some acc) := by
        show _ = _
        rw [HPR.out, List.drop_of_length_le (by rw [HNL.out]; omega), ref_nil, Option.map_some, List.append_nil]
      have HRT := rfright_any la lc acc wr (HO.out.fs.1) (by rw [hm]; have := HMB.out; omega)
      rw [hm] at HRT
      have HRT := Lib.hid HRT
      clear hm hkn
      go_wp2_with fail
      refine HRT.out.mono ?_
      rintro e w3 ⟨rfl, hb⟩
      have HB3 := Lib.hid (HBW.out.trans (hb.mono HBW.out.size))
      have HO3 := Lib.hid (HO.out.below hb)
      clear hb HRT HO
      cases hrp : rightM acc
      · have HP : Hid (RfParse w.heap.size (.returned (.tuple #[.slice none 0 0, .bool false])) w3 (readL L0)) := by
          show RfParse _ _ _ _
          rw [read_ref, HPR2.out]
          simp only [hrp]
          exact rfl
        clear hrp
        go_wp2_with fail
        (try simp only [Exit.inBlock, Exit.then])
        go_ret2
        exact ⟨HP.out, HB3.out⟩
      · have HP : Hid (RfParse w.heap.size (.returned (.tuple #[.slice la m lc, .bool true])) w3 (readL L0)) := by
          show RfParse _ _ _ _
          rw [read_ref, HPR2.out]
          simp only [hrp]
          exact RfParse.good HM.out HO3.out
        clear hrp
        go_wp2_with fail
        (try simp only [Exit.inBlock, Exit.then])
        go_ret2
        exact ⟨HP.out, HB3.out⟩
    · have hki : (k : Int) < (nl : Int) := by omega
      have hne : L0.drop k ≠ [] := fun e => by
        have := congrArg List.length e
        rw [List.length_drop, HNL.out] at this
        simp at this; omega
      have HBADF : Hid (∀ W, refOk (L0.drop k) = false → RfParse w.heap.size (.returned (.tuple #[.slice none 0 0, .bool false])) W (readL L0)) := fun W h => by
        rw [read_ref, HPR.out, ref_bad hne h]
        exact rfl
      have HKL := Lib.hid (show k < nl by omega)
      clear hne hL hm hkn
      go_wp2_with fail
      clear hki
      go_loop [6] (fun i => ∃ e : Nat, k ≤ e ∧ e ≤ nl ∧ i = .int .i64 (e : Int) ∧ ∀ j, k ≤ j → j < e → L0[j]? ≠ some 10) (fun i => nl - (intOf i).toNat)
      case atStart => exact ⟨k, by omega, by have := HKL.out; omega, rfl, fun j h1 h2 => by omega⟩
      case round =>
        obtain ⟨e, hke, hen, rfl, hnox⟩ := hrel
        have HNX := Lib.hid hnox
        have HKE := Lib.hid hke
        have HEN := Lib.hid hen
        have WE := Lib.hid (next_int e (by have := HNB.out; omega))
        clear hnox hke hen
        by_cases hee : e = nl
        · subst hee
          have hei : ¬ (e : Int) < (e : Int) := by omega
          go_wp2_with fail
          clear hei
          go_loop [7] (fun i => ∃ z : Nat, k ≤ z ∧ z ≤ e ∧ i = .int .i64 (z : Int) ∧ ∀ j, k ≤ j → j < z → L0[j]? ≠ some 0) (fun i => e - (intOf i).toNat)
          case atStart => exact ⟨k, by omega, by have := HKE.out; omega, rfl, fun j h1 h2 => by omega⟩
          case round =>
            obtain ⟨z, hkz, hze, rfl, hno0⟩ := hrel
            have HN0 := Lib.hid hno0
            have HKZ := Lib.hid hkz
            have WZ := Lib.hid (next_int z (by have := HNB.out; have := HEN.out; omega))
            clear hno0 hkz
            by_cases hzz : z = e
            · have HZE := Lib.hid hzz
              have hzi : ¬ (z : Int) < (e : Int) := by omega
              clear hze
              have HBAD := Lib.hid (HBADF.out wr (no_line (by rw [HNL.out]; exact HNX.out)))
              clear HBADF
              go_wp2_with fail
              (try simp only [Exit.inBlock, Exit.then])
              go_ret2
              exact ⟨HBAD.out, HBW.out⟩
            · have hzl : z < e := by omega
              have hzi : (z : Int) < (e : Int) := by omega
              have hzn : z < e := by have := HEN.out; omega
              have hiz := fun W => index_text (txt L0) z (by rw [txt_size, HNL.out]; exact hzn) (z : Int) rfl W
              have HGZ := Lib.hid (at8_get L0 z 0 (by rw [HNL.out]; exact hzn))
              have HZL := Lib.hid hzl
              clear hzz hze hzl hzn
              obtain ⟨c, hc⟩ : ∃ c, at8 (txt L0) z = c := ⟨_, rfl⟩
              rw [hc] at HGZ hiz
              clear hc
              by_cases hc0 : c = 0
              · subst hc0
                have HZ0 : Hid (L0[z]? = some 0) := HGZ.out.2 rfl
                clear HGZ
                have HBAD := Lib.hid (HBADF.out wr (no_line (by rw [HNL.out]; exact HNX.out)))
                clear HBADF
                go_wp2_with fail
                (try simp only [Exit.inBlock, Exit.then])
                go_ret2
                exact ⟨HBAD.out, HBW.out⟩
              · have HZ0 : Hid (L0[z]? ≠ some 0) := fun h => hc0 (HGZ.out.1 h)
                have hcb : ((c : Int) != 0) = true := by simp; omega
                have hcb2 : ¬ (c : Int) = 0 := by omega
                have HN02 : Hid (∀ j, k ≤ j → j < z + 1 → L0[j]? ≠ some 0) := fun j h1 h2 => by
                  by_cases hj : j = z
                  · rw [hj]; exact HZ0.out
                  · exact HN0.out j h1 (by omega)
                clear HGZ hc0
                go_wp2_with fail
                exact ⟨⟨z + 1, by have := HKZ.out; omega, by have := HZL.out; omega, by rw [WZ.out _ rfl], HN02.out⟩, by have := HZL.out; rw [WZ.out _ rfl]; simp [intOf]; omega⟩
        · have hel : e < nl := by have := HEN.out; omega
          have hei : (e : Int) < (nl : Int) := by omega
          have hie := fun W => index_text (txt L0) e (by rw [hts]; exact hel) (e : Int) rfl W
          have HGE := Lib.hid (at8_get L0 e 10 (by rw [HNL.out]; exact hel))
          have HEL := Lib.hid hel
          have HEE := Lib.hid hee
          clear hee hel
          obtain ⟨c, hc⟩ : ∃ c, at8 (txt L0) e = c := ⟨_, rfl⟩
          rw [hc] at HGE hie
          clear hc
          by_cases hc0 : c = 10
          · subst hc0
            have H10 : Hid (L0[e]? = some 10) := HGE.out.2 rfl
            clear HGE
            go_wp2_with fail
            clear hei hie
            have hnei : ¬ (e : Int) = (nl : Int) := by have := HEE.out; omega
            have hneb : ((e : Int) == (nl : Int)) = false := beq_eq_false_iff_ne.2 hnei
            go_loop [7] (fun i => ∃ z : Nat, k ≤ z ∧ z ≤ e ∧ i = .int .i64 (z : Int) ∧ ∀ j, k ≤ j → j < z → L0[j]? ≠ some 0) (fun i => e - (intOf i).toNat)
            case atStart => exact ⟨k, by omega, by have := HKE.out; omega, rfl, fun j h1 h2 => by omega⟩
            case round =>
              obtain ⟨z, hkz, hze, rfl, hno0⟩ := hrel
              have HN0 := Lib.hid hno0
              have HKZ := Lib.hid hkz
              have WZ := Lib.hid (next_int z (by have := HNB.out; have := HEN.out; omega))
              clear hno0 hkz
              by_cases hzz : z = e
              · have HZE := Lib.hid hzz
                have hzi : ¬ (z : Int) < (e : Int) := by omega
                clear hze
                have HBAD := Lib.hid (HBADF.out wr (no_zero HKE.out H10.out HNX.out (fun j h1 h2 => HN0.out j h1 (by have := HZE.out; omega))))
                have wez : wrap64 ((e : Int) - (z : Int)) = 0 := by
                  rw [show (e : Int) - (z : Int) = ((0 : Nat) : Int) by omega]
                  exact IntWalk.wrap64_in _ (by decide)
                clear HBADF hzz
                go_wp2_with fail
                (try simp only [Exit.inBlock, Exit.then])
                go_ret2
                exact ⟨HBAD.out, HBW.out⟩
              · have hzl : z < e := by omega
                have hzi : (z : Int) < (e : Int) := by omega
                have hzn : z < nl := by have := HEN.out; omega
                have hiz := fun W => index_text (txt L0) z (by rw [txt_size, HNL.out]; exact hzn) (z : Int) rfl W
                have HGZ := Lib.hid (at8_get L0 z 0 (by rw [HNL.out]; exact hzn))
                have HZL := Lib.hid hzl
                clear hzz hze hzl hzn
                obtain ⟨c, hc⟩ : ∃ c, at8 (txt L0) z = c := ⟨_, rfl⟩
                rw [hc] at HGZ hiz
                clear hc
                by_cases hc0 : c = 0
                · subst hc0
                  have HZ0 : Hid (L0[z]? = some 0) := HGZ.out.2 rfl
                  clear HGZ
                  have HRH := Lib.hid (ref_here HKZ.out HZL.out H10.out HNX.out HZ0.out HN0.out)
                  have wez : wrap64 ((e : Int) - (z : Int)) = ((e - z : Nat) : Int) := by
                    rw [show (e : Int) - (z : Int) = ((e - z : Nat) : Int) by have := HZL.out; omega]
                    exact IntWalk.wrap64_in _ (by have := HNB.out; have := HEN.out; omega)
                  by_cases h41 : e - z < 41
                  · have HBAD := Lib.hid (HBADF.out wr (by rw [HRH.out.1, decide_eq_false (by omega)]; rfl))
                    have hdi : ((e - z : Nat) : Int) < 41 := by omega
                    clear HBADF HRH h41
                    generalize e - z = dd at *
                    go_wp2_with fail
                    (try simp only [Exit.inBlock, Exit.then])
                    go_ret2
                    exact ⟨HBAD.out, HBW.out⟩
                  · have hdi : ¬ ((e - z : Nat) : Int) < 41 := by omega
                    have H41 : Hid (z + 41 ≤ e) := by show _ ≤ _; omega
                    have HOK0 := HRH.out.1
                    rw [decide_eq_true (by omega), take_more (by omega)] at HOK0
                    have HOK := Lib.hid HOK0
                    have HIS := Lib.hid (HRH.out.2.1 (by omega))
                    have HRS := Lib.hid HRH.out.2.2
                    clear h41 HRH HOK0
                    generalize e - z = dd at *
                    have w1 : wrap64 ((z : Int) + 1) = ((z + 1 : Nat) : Int) := by
                      rw [show (z : Int) + 1 = ((z + 1 : Nat) : Int) by omega]
                      exact IntWalk.wrap64_in _ (by have := HNB.out; have := HEN.out; have := HZL.out; omega)
                    have w41 : wrap64 ((z : Int) + 41) = ((z + 41 : Nat) : Int) := by
                      rw [show (z : Int) + 41 = ((z + 41 : Nat) : Int) by omega]
                      exact IntWalk.wrap64_in _ (by have := HNB.out; have := HEN.out; have := H41.out; omega)
                    have W41 : Hid (IntKind.i64.wrap ((z : Int) + 41) = ((z + 41 : Nat) : Int)) := by
                      show _ = _
                      rw [show (z : Int) + 41 = ((z + 41 : Nat) : Int) by omega]
                      exact IntWalk.i64_in _ (by have := HNB.out; have := HEN.out; have := H41.out; omega)
                    have hsh := fun W => slice_txt L0 (z + 1) (z + 41) (by omega) (by have := HNL.out; have := HEN.out; have := H41.out; omega) _ _ rfl rfl W
                    rw [show z + 41 - (z + 1) = 40 by omega] at hsh
                    have HSP := Lib.hid (fun W => slice_txt L0 k z HKZ.out (by have := HNL.out; have := HEN.out; have := HZL.out; omega) (k : Int) (z : Int) rfl rfl W)
                    have HSF := Lib.hid (fun W => slice_txt L0 (z + 41) e H41.out (by have := HNL.out; have := HEN.out; omega) _ (e : Int) rfl rfl W)
                    have HHS : Hid ((txt ((L0.drop (z + 1)).take 40)).size ≤ 9223372036854775807) := Nat.le_trans (Nat.le_of_eq (txt_size _)) (Nat.le_trans (List.length_take_le _ _) (by decide))
                    obtain ⟨n1, hn1⟩ : ∃ n, z + 1 = n := ⟨_, rfl⟩
                    obtain ⟨n41, hn41⟩ : ∃ n, z + 41 = n := ⟨_, rfl⟩
                    have HN1 := Lib.hid hn1
                    have HN41 := Lib.hid hn41
                    rw [hn1] at w1 hsh HHS HOK HIS
                    rw [hn41] at w41 W41 hsh HSF HIS
                    clear hn1 hn41
                    obtain ⟨G, hG⟩ : ∃ g, (L0.drop n1).take 40 = g := ⟨_, rfl⟩
                    obtain ⟨PA, hPA⟩ : ∃ g, (L0.drop k).take (z - k) = g := ⟨_, rfl⟩
                    obtain ⟨FL, hFL⟩ : ∃ g, (L0.drop n41).take (e - n41) = g := ⟨_, rfl⟩
                    rw [hG] at hsh HHS HOK HIS
                    rw [hPA] at HSP HIS
                    rw [hFL] at HSF HIS
                    clear hG hPA hFL
                    go_wp2_with fail
                    refine (refParse_any (txt G) wr HHS.out).mono ?_
                    rintro e3 w3 ⟨rfl, hb⟩
                    have HB3 := Lib.hid (HBW.out.trans (hb.mono HBW.out.size))
                    have HO3 := Lib.hid (HO.out.below hb)
                    have HPL : Hid ((parsed (txt G)).length = 20) := parsed_length _
                    clear hb hsh HHS HO
                    generalize parsed (txt G) = pid at *
                    generalize isHex (txt G) = kg at *
                    have HIF := Lib.hid (id20_info pid HPL.out)
                    have HSZ : Hid ((V8 zeros20).size = (V8 pid).size) := by show _ = _; rw [V8_size, V8_size, HPL.out]; rfl
                    have HZF : Hid ((w3.alloc (.cells (V8 zeros20) 40)).heap[w3.heap.size]? = some (.cells (V8 zeros20) 40 (0, 0))) := heap_alloc_new _ _
                    have hb4 : Below w3.heap.size w3 ((w3.alloc (.cells (V8 zeros20) 40)).setRow w3.heap.size (V8 pid)) := below_setRow ((Below.refl _ _).alloc (Nat.le_refl _) _) (Nat.le_refl _) _
                    have HB4 := Lib.hid (HB3.out.trans (hb4.mono HB3.out.size))
                    have HO4 := Lib.hid (HO3.out.below hb4)
                    have HI4 := Lib.hid (setRow_heap _ _ _ (V8 pid) _ _ HZF.out)
                    have hzi24 := zero_id20
                    clear hb4 HO3 HB3
                    cases kg
                    · have HBAD : Hid (RfParse w.heap.size (.returned (.tuple #[.slice none 0 0, .bool false])) ((w3.alloc (.cells (V8 zeros20) 40)).setRow w3.heap.size (V8 pid)) (readL L0)) := HBADF.out _ (by rw [HOK.out]; rfl)
                      clear HBADF HOK
                      go_wp2_with (first
                        | refine wpList_store_row rfl 40 _ _ rfl w3.heap.size (V8 pid) rfl rfl 40 (V8 zeros20) HZF.out HIF.out HSZ.out (V8_one _) ?_)
                      (try simp only [Exit.inBlock, Exit.then])
                      go_ret2
                      exact ⟨HBAD.out, HB4.out⟩
                    have hok : refOk (L0.drop k) = true := by rw [HOK.out]; rfl
                    obtain ⟨X, hX⟩ : ∃ X : MF, (⟨txt PA, pid, txt FL⟩ : MF) = X := ⟨_, rfl⟩
                    have HX20 : Hid (X.n.length = 20) := by show _ = _; rw [← hX]; exact HPL.out
                    have HBU : Hid (∀ W, (Instr.build 42 #[(0, .string (txt PA)), (1, .agg (V8 pid)), (2, .string (txt FL))]).run Tryd.prog W = .ok (.agg (fileA X)) W) := fun W => by
                      rw [← hX]; exact build_rfile _ _ pid HPL.out W
                    have HBS := Lib.hid (fun W => slice_rfile X HX20.out W)
                    have HQ : Hid (refL L0 = (refL (L0.drop (e + 1))).map ((acc ++ [X]) ++ ·)) := by
                      show _ = _
                      rw [HPR.out, ref_step hok, HIS.out, HRS.out, hX, Option.map_map]
                      congr 1
                      funext x
                      simp
                    have HAX : Hid (42 * (acc ++ [X]).length ≤ e + 1) := by
                      show _ ≤ _
                      rw [List.length_append, HM.out, List.length_singleton]
                      have h1 := HSZ0.out; have h2 := HKZ.out; have h3 := H41.out
                      omega
                    clear hok hX HBADF HPR HOK HIS HRS
                    go_wp2_with (first
                      | refine wpList_store_row rfl 40 _ _ rfl w3.heap.size (V8 pid) rfl rfl 40 (V8 zeros20) HZF.out HIF.out HSZ.out (V8_one _) ?_)
                    clear HZF HIF HSZ hzi24
                    generalize (w3.alloc (.cells (V8 zeros20) 40)).setRow w3.heap.size (V8 pid) = w4 at *
                    generalize w3.heap.size = bi at *
                    have hb5 : Below w4.heap.size w4 (w4.drew.alloc (.cells (fileA X) 42)) := (Below.refl _ _).drew.alloc (Nat.le_refl _) _
                    have HB5 := Lib.hid (HB4.out.trans (hb5.mono HB4.out.size))
                    have HO5 := Lib.hid (HO4.out.below hb5)
                    have HI5 : Hid ((w4.drew.alloc (.cells (fileA X) 42)).heap[bi]? = some (.cells (V8 pid) 40 (0, 0))) := (hb5.block bi (Array.getElem?_eq_some_iff.1 HI4.out).1).trans HI4.out
                    have HLI : Hid ((w4.drew.alloc (.cells (fileA X) 42)).rangeAt w4.heap.size 0 (fileL X)) := box_file w4.drew X _
                    have hsp := HSP.out
                    have hsf := HSF.out
                    have h41w := W41.out
                    clear hb5 HO4 w1 wez
                    refine wp_region_noPanic ?_
                    refine wp_region_held_drew (S := fun W => W.heap[bi]? = some (.cells (V8 pid) 40 (0, 0))) (by kernel_rfl) ?_ (fun hHeld => ?_)
                    · exact HI4.out
                    refine wpAnyH_take (i := 0) (v := ?_) (by simp only [List.getElem?_toArray, List.getElem?_cons_zero]; rfl) (by kernel_rfl) (by kernel_rfl) (by kernel_rfl) (fun _ _ _ h => h) (Or.inl ⟨by rfl, ?_⟩) (by assumption) ?_
                    rotate_left
                    · intro W hSW
                      go_simp
                      try with_reducible rfl
                    try simp only [Act.put, List.setIfInBounds_toArray, List.set_cons_zero, List.set_cons_succ]
                    refine wpAnyH_take (i := 1) (v := ?_) (by simp only [List.getElem?_toArray, List.getElem?_cons_succ, List.getElem?_cons_zero]; rfl) (by kernel_rfl) (by kernel_rfl) (by kernel_rfl) (fun _ _ _ h => h) (Or.inl ⟨by rfl, ?_⟩) (by assumption) ?_
                    rotate_left
                    · intro W hSW
                      go_simp
                      try with_reducible rfl
                    try simp only [Act.put, List.setIfInBounds_toArray, List.set_cons_zero, List.set_cons_succ]
                    refine wpAnyH_take (i := 2) (v := ?_) (by simp only [List.getElem?_toArray, List.getElem?_cons_succ, List.getElem?_cons_zero]; rfl) (by kernel_rfl) (by kernel_rfl) (by kernel_rfl) (fun _ _ _ h => h) (Or.inl ⟨by rfl, ?_⟩) (by assumption) ?_
                    rotate_left
                    · intro W hSW
                      go_simp
                      try with_reducible rfl
                    try simp only [Act.put, List.setIfInBounds_toArray, List.set_cons_zero, List.set_cons_succ]
                    refine wpAnyH_take (i := 3) (v := ?_) (by simp only [List.getElem?_toArray, List.getElem?_cons_succ, List.getElem?_cons_zero]; rfl) (by kernel_rfl) (by kernel_rfl) (by kernel_rfl) (fun _ _ _ h => h) (Or.inl ⟨by rfl, ?_⟩) (by assumption) ?_
                    rotate_left
                    · intro W hSW
                      go_simp
                      try with_reducible rfl
                    try simp only [Act.put, List.setIfInBounds_toArray, List.set_cons_zero, List.set_cons_succ]
                    refine wpAnyH_take (i := 4) (v := ?_) (by simp only [List.getElem?_toArray, List.getElem?_cons_succ, List.getElem?_cons_zero]; rfl) (by kernel_rfl) (by kernel_rfl) (by kernel_rfl) (fun _ _ _ h => h) (Or.inl ⟨by rfl, ?_⟩) (by assumption) ?_
                    rotate_left
                    · intro W hSW
                      go_simp
                      try with_reducible rfl
                    try simp only [Act.put, List.setIfInBounds_toArray, List.set_cons_zero, List.set_cons_succ]
                    refine wpAnyH_take (i := 5) (by simp only [List.getElem?_toArray, List.getElem?_cons_succ, List.getElem?_cons_zero]; rfl) (by kernel_rfl) (by kernel_rfl) (by kernel_rfl) (fun _ _ _ h => h) (yieldsIf_load_mid (by rfl) 40 _ rfl bi 0 rfl (U8 pid) (.array 20 5) (fun W hSW => row_id hSW) Tryd.underlying40 rfl (id20_infoL _ HPL.out)) (by assumption) ?_
                    try simp only [Act.put, List.setIfInBounds_toArray, List.set_cons_zero, List.set_cons_succ]
                    refine wpAnyH_take (i := 6) (v := ?_) (by simp only [List.getElem?_toArray, List.getElem?_cons_succ, List.getElem?_cons_zero]; rfl) (by kernel_rfl) (by kernel_rfl) (by kernel_rfl) (fun _ _ _ h => h) (Or.inl ⟨by rfl, ?_⟩) (by assumption) ?_
                    rotate_left
                    · intro W hSW
                      go_simp
                      try with_reducible rfl
                    try simp only [Act.put, List.setIfInBounds_toArray, List.set_cons_zero, List.set_cons_succ]
                    refine wpAnyH_take (i := 7) (v := ?_) (by simp only [List.getElem?_toArray, List.getElem?_cons_succ, List.getElem?_cons_zero]; rfl) (by kernel_rfl) (by kernel_rfl) (by kernel_rfl) (fun _ _ _ h => h) (Or.inl ⟨by rfl, ?_⟩) (by assumption) ?_
                    rotate_left
                    · intro W hSW
                      go_simp
                      try with_reducible rfl
                    try simp only [Act.put, List.setIfInBounds_toArray, List.set_cons_zero, List.set_cons_succ]
                    refine wpAnyH_take (i := 8) (v := ?_) (by simp only [List.getElem?_toArray, List.getElem?_cons_succ, List.getElem?_cons_zero]; rfl) (by kernel_rfl) (by kernel_rfl) (by kernel_rfl) (fun _ _ _ h => h) (Or.inl ⟨by rfl, ?_⟩) (by assumption) ?_
                    rotate_left
                    · intro W hSW
                      go_simp
                      try with_reducible rfl
                    try simp only [Act.put, List.setIfInBounds_toArray, List.set_cons_zero, List.set_cons_succ]
                    refine wpAnyH_take (i := 9) (v := ?_) (by simp only [List.getElem?_toArray, List.getElem?_cons_succ, List.getElem?_cons_zero]; rfl) (by kernel_rfl) (by kernel_rfl) (by kernel_rfl) (fun _ _ _ h => h) (Or.inl ⟨by rfl, ?_⟩) (by assumption) ?_
                    rotate_left
                    · intro W hSW
                      go_simp
                      try with_reducible rfl
                    try simp only [Act.put, List.setIfInBounds_toArray, List.set_cons_zero, List.set_cons_succ]
                    refine wpAnyH_take (i := 10) (v := ?_) (by simp only [List.getElem?_toArray, List.getElem?_cons_succ, List.getElem?_cons_zero]; rfl) (by kernel_rfl) (by kernel_rfl) (by kernel_rfl) (fun _ _ _ h => h) (Or.inl ⟨by rfl, ?_⟩) (by assumption) ?_
                    rotate_left
                    · intro W hSW
                      go_simp
                      try with_reducible rfl
                    try simp only [Act.put, List.setIfInBounds_toArray, List.set_cons_zero, List.set_cons_succ]
                    refine wpAnyH_take (i := 11) (by simp only [List.getElem?_toArray, List.getElem?_cons_succ, List.getElem?_cons_zero]; rfl) (by kernel_rfl) (by kernel_rfl) (by kernel_rfl) (fun _ _ _ h => h) (yieldsIf_build (by rfl) _ _ rfl #[(0, .string (txt PA)), (1, .agg (V8 pid)), (2, .string (txt FL))] (map_three _ _ _ _ _ _ _ rfl rfl rfl) (.agg (fileA X)) HBU.out) (by assumption) ?_
                    try simp only [Act.put, List.setIfInBounds_toArray, List.set_cons_zero, List.set_cons_succ]
                    refine wpAnyH_ready (rs := [12]) (by kernel_rfl) (by simp) ?_
                    refine AllReadyH.cons (by simp only [List.getElem?_toArray, List.getElem?_cons_succ, List.getElem?_cons_zero]; rfl) (fun K hK => ?_) AllReadyH.nil
                    refine step_slice (by rfl) _ _ _ rfl #[(0, .agg (fileA X))] (map_one _ _ _ rfl) _ _ (HBS.out _) ?_
                    refine hK.out _ _ (HI5.out) (fun hHeld2 => ?_)
                    clear hK K hHeld
                    have hHeld := hHeld2
                    clear hHeld2
                    try simp only [Act.put, List.setIfInBounds_toArray, List.set_cons_zero, List.set_cons_succ]
                    refine wpAnyH_ready (rs := [13]) (by kernel_rfl) (by simp) ?_
                    refine AllReadyH.cons (by simp only [List.getElem?_toArray, List.getElem?_cons_succ, List.getElem?_cons_zero]; rfl) (fun K hK => ?_) AllReadyH.nil
                    refine step_append_rfile rfl _ _ rfl w.heap.size (.slice la m lc) acc m HM.out rfl HO5.out w4.heap.size X HX20.out rfl HLI.out (by have := HMB.out; omega) HB5.out.size ?_
                    rintro g2 gc2 w7 ho7 hg7 hgg hgl
                    have HO7 := Lib.hid ho7
                    have HB7 := Lib.hid (HB5.out.trans (own_off HO5.out HB5.out.size hg7))
                    have HI7 := Lib.hid (row_grown HI5.out HO5.out (by decide) hg7)
                    clear ho7 hg7 hgg hgl
                    refine hK.out _ _ (HI7.out) (fun hHeld2 => ?_)
                    clear hK K hHeld
                    have hHeld := hHeld2
                    clear hHeld2
                    try simp only [Act.put, List.setIfInBounds_toArray, List.set_cons_zero, List.set_cons_succ]
                    refine wpAnyH_take (i := 14) (v := ?_) (by simp only [List.getElem?_toArray, List.getElem?_cons_succ, List.getElem?_cons_zero]; rfl) (by kernel_rfl) (by kernel_rfl) (by kernel_rfl) (fun _ _ _ h => h) (Or.inl ⟨by rfl, ?_⟩) (by assumption) ?_
                    rotate_left
                    · intro W hSW
                      go_simp
                      try with_reducible rfl
                    try simp only [Act.put, List.setIfInBounds_toArray, List.set_cons_zero, List.set_cons_succ]
                    refine wpAnyH_done (by kernel_rfl) ?_ _
                    refine NoPanic.normal ?_
                    clear hHeld hsp hsf h41w w41 HBU HBS HLI HO5 HI5 HB5
                    have HKN := Lib.hid (show e + 1 ≤ nl by have := HEL.out; omega)
                    go_wp2_with fail
                    exact ⟨⟨acc ++ [X], e + 1, HO7.out, by rw [WE.out _ rfl], HKN.out, HAX.out, HQ.out, HB7.out⟩, by have h1 := HKN.out; have h2 := HKE.out; rw [WE.out _ rfl]; simp [intOf]; omega⟩
                · have HZ0 : Hid (L0[z]? ≠ some 0) := fun h => hc0 (HGZ.out.1 h)
                  have hcb : ((c : Int) != 0) = true := by simp; omega
                  have hcb2 : ¬ (c : Int) = 0 := by omega
                  have HN02 : Hid (∀ j, k ≤ j → j < z + 1 → L0[j]? ≠ some 0) := fun j h1 h2 => by
                    by_cases hj : j = z
                    · rw [hj]; exact HZ0.out
                    · exact HN0.out j h1 (by omega)
                  clear HGZ hc0
                  go_wp2_with fail
                  exact ⟨⟨z + 1, by have := HKZ.out; omega, by have := HZL.out; omega, by rw [WZ.out _ rfl], HN02.out⟩, by have := HZL.out; rw [WZ.out _ rfl]; simp [intOf]; omega⟩
          · have H10 : Hid (L0[e]? ≠ some 10) := fun h => hc0 (HGE.out.1 h)
            have hcb : ((c : Int) != 10) = true := by simp; omega
            have hcb2 : ¬ (c : Int) = 10 := by omega
            have HNX2 : Hid (∀ j, k ≤ j → j < e + 1 → L0[j]? ≠ some 10) := fun j h1 h2 => by
              by_cases hj : j = e
              · rw [hj]; exact H10.out
              · exact HNX.out j h1 (by omega)
            clear HGE hc0
            go_wp2_with fail
            exact ⟨⟨e + 1, by have := HKE.out; omega, by have := HEL.out; omega, by rw [WE.out _ rfl], HNX2.out⟩, by have := HEL.out; rw [WE.out _ rfl]; simp [intOf]; omega⟩
end Go.Proofs.YtcccnnmcmeoajaaDoor
