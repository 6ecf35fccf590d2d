/- The document's Right of files: the walk. -/
import Derived.Test.YtcccnnmcmeoajaaDoorMfRight
namespace Go.Proofs.YtcccnnmcmeoajaaDoor
open Go.RowKit Plain
set_option linter.unusedVariables false
set_option linter.unusedSimpArgs false
theorem guard_ne (x y : Operand) (s t : ByteArray) (W : World) : (eqGuard .neq 9 x y (.string s) (.string t)).run Tryd.prog W = .ok () W := by simp [eqGuard]
theorem guard_eq (x y : Operand) (s t : ByteArray) (W : World) : (eqGuard .eql 9 x y (.string s) (.string t)).run Tryd.prog W = .ok () W := by simp [eqGuard]
theorem guard_geq2 (x y : Operand) (s t : ByteArray) (W : World) : (eqGuard .geq 9 x y (.string s) (.string t)).run Tryd.prog W = .ok () W := by simp [eqGuard]
theorem wpList_eql {P : Program} {w : World} {ops : Array Oper} {rest : List Oper} {o : Oper} {a : Act} {Q : Exit → Act → World → Prop} (hw : Region.wanted o (yielded ops a.tmps) = true) (b : BinOp) (ty : TypeId) (x y : Operand) (tz : TypeId) (ho : o.op = .binOp b ty x y tz)
    (u1 u2 : Value) (h1 : a.eval x = u1) (h2 : a.eval y = u2) (v : Value) (hg : ∀ W, (eqGuard b ty x y u1 u2).run P W = .ok () W) (hr : ∀ W, (binOp b ty u1 u2).run P W = .ok v W) (h : wpList P ops Q rest (a.put o.dst v) w) : wpList P ops Q (o :: rest) a w := by
  refine wpList_step ?_
  intro K hK
  rw [if_pos hw]
  unfold Oper.wp execOp
  simp only [ho, h1, h2, Sem.run_bind, hg, hr, Result.andThen_ok]
  exact hK _ _ h
theorem ne_str (a b : ByteArray) (e : Bool) (h : (a.toList == b.toList) = e) (W : World) : (binOp .neq 9 (.string a) (.string b)).run Tryd.prog W = .ok (.bool (!e)) W := by
  rw [binOp_string_neq, h]; rfl
theorem flag_parts (f : ByteArray) : flagOk f = ((f.toList == (⟨#[]⟩ : ByteArray).toList) || (f.toList == (⟨#[120]⟩ : ByteArray).toList) || (f.toList == (⟨#[108]⟩ : ByteArray).toList)) := by
  unfold flagOk
  rw [Lib.toList_data, Lib.toList_data, Lib.toList_data, Lib.toList_data]
  cases f.data.toList <;> rfl
set_option maxRecDepth 100000 in
set_option maxHeartbeats 64000000 in
theorem rfright_any (a : Option Addr) (c : Nat) (xs : List MF) (w : World) (h : FsAt w a xs) (hn : xs.length ≤ 1000000) :
    Calls Tryd.prog 9 #[.slice a xs.length c] w fun e w' => e = .returned (.bool (rightM xs)) ∧ Below w.heap.size w w' := by
  have H := Lib.hid h
  obtain ⟨n, hnl⟩ : ∃ n, xs.length = n := ⟨_, rfl⟩
  have HN := Lib.hid hnl
  have HNB : Hid (n ≤ 1000000) := by show _ ≤ _; omega
  rw [hnl]
  clear h hn hnl
  go_enter Tryd.func9, Tryd.ntmps9
  go_wp2_with fail
  go_loopw [3] (fun i wr => ∃ k : Nat, k ≤ n ∧ i = .int .i64 (k : Int) ∧ Below w.heap.size w wr ∧ (∀ j x, j < k → xs[j]? = some x → okAt xs j x = true) ∧ ∀ p ∈ xs.take k, ∀ q ∈ xs, under p.p q.p = false) (fun i _ => n - (intOf i).toNat)
  case atStart => exact ⟨0, by omega, rfl, Below.refl _ _, fun j x hj => absurd hj (by omega), fun q hq => absurd hq (by simp)⟩
  case round =>
    obtain ⟨k, hk, rfl, hb, hok, hno⟩ := hrel
    have HBW := Lib.hid hb
    have HOK := Lib.hid hok
    have HNO := Lib.hid hno
    have WK := Lib.hid (next_int k (by have := HNB.out; omega))
    clear hb hok hno
    by_cases hkn : k = n
    · subst hkn
      have hki : ¬ (k : Int) < (k : Int) := by omega
      have HRM : Hid (rightM xs = true) := (rightM_iff xs).2 ⟨fun j x hx => HOK.out j x (by rw [← HN.out]; exact (List.getElem?_eq_some_iff.1 hx).1) hx, fun q hq p hp => by
        have := HNO.out
        rw [List.take_of_length_le (by rw [HN.out]; omega)] at this
        exact this p hp q hq⟩
      go_wp2_with fail
      go_ret
      exact ⟨by rw [HRM.out]; rfl, HBW.out⟩
    · have hkl : k < n := by omega
      have hki : (k : Int) < (n : Int) := by omega
      obtain ⟨b, off, x, rfl, hp, h20, hbl, hr⟩ := H.out.at (k := k) (by rw [HN.out]; exact hkl)
      have hcp := range_path (range_below hr HBW.out hbl)
      have HP := Lib.hid hp
      have HKN := Lib.hid hkl
      have HROW : Hid (∀ j y, xs[j]? = some y → ∀ W, Below w.heap.size w W → W.rangeAt b (off + j * 22) (fileL y)) := fun j y hy W hW => by
        rcases H.out.rows with h0 | ⟨b3, off3, e3, hl3, hc3⟩
        · rw [HN.out] at h0; omega
        · injection e3 with e3
          injection e3 with e4 e5 _
          subst e4 e5
          exact range_below (hc3 j y hy) hW hl3
      obtain ⟨rl, hrl⟩ : ∃ r, rightL x.p.data.toList = r := ⟨_, rfl⟩
      have HRL := Lib.hid hrl
      have HFP := Lib.hid (flag_parts x.f)
      obtain ⟨e1, he1⟩ : ∃ r, (x.f.toList == (⟨#[]⟩ : ByteArray).toList) = r := ⟨_, rfl⟩
      obtain ⟨e2, he2⟩ : ∃ r, (x.f.toList == (⟨#[120]⟩ : ByteArray).toList) = r := ⟨_, rfl⟩
      obtain ⟨e3, he3⟩ : ∃ r, (x.f.toList == (⟨#[108]⟩ : ByteArray).toList) = r := ⟨_, rfl⟩
      have HFO0 : Hid (flagOk x.f = (e1 || e2 || e3)) := by show _ = _; rw [HFP.out, he1, he2, he3]
      have HN1 := Lib.hid (ne_str _ _ _ he1)
      have HN2 := Lib.hid (ne_str _ _ _ he2)
      have HN3 := Lib.hid (ne_str _ _ _ he3)
      have H20 := Lib.hid h20
      clear hrl he1 he2 he3 hr hbl hp h20 hkn hkl HFP
      go_wp2_with fail
      refine (refRight_any x.p wr).mono ?_
      rintro e v1 ⟨rfl, hb⟩
      rw [HRL.out]
      have HB1 := Lib.hid (HBW.out.trans (hb.mono HBW.out.size))
      have hcf := range_flag (HROW.out k x HP.out v1 HB1.out) H20.out
      clear hb hcp
      cases rl
      · have HBAD : Hid (okAt xs k x = false) := by show _ = _; unfold okAt; rw [HRL.out]; rfl
        go_wp2_with fail
        (try simp only [Exit.inBlock, Exit.then])
        go_ret
        exact ⟨by rw [rightM_bad HP.out HBAD.out]; rfl, HB1.out⟩
      · cases e1
        · cases e2
          · cases e3
            · have HBAD : Hid (okAt xs k x = false) := by show _ = _; unfold okAt; rw [HRL.out, HFO0.out]; rfl
              go_wp2_with (first
                | refine wpList_eql (by rfl) .neq 9 _ _ _ rfl (.string x.f) (.string ⟨#[]⟩) rfl rfl (.bool true) (guard_ne _ _ _ _) (fun W => HN1.out W) ?_
                | refine wpList_eql (by rfl) .neq 9 _ _ _ rfl (.string x.f) (.string ⟨#[120]⟩) rfl rfl (.bool true) (guard_ne _ _ _ _) (fun W => HN2.out W) ?_
                | refine wpList_eql (by rfl) .neq 9 _ _ _ rfl (.string x.f) (.string ⟨#[108]⟩) rfl rfl (.bool true) (guard_ne _ _ _ _) (fun W => HN3.out W) ?_)
              (try simp only [Exit.inBlock, Exit.then])
              go_ret
              exact ⟨by rw [rightM_bad HP.out HBAD.out]; rfl, HB1.out⟩
            · have HFO : Hid (flagOk x.f = true) := HFO0.out
              by_cases hk0 : k = 0
              · have HGOOD : Hid (okAt xs k x = true) := by show _ = _; rw [hk0]; unfold okAt; rw [HRL.out, HFO.out]; rfl
                have hgt : ¬ (0 : Int) < (k : Int) := by omega
                have hgt2 : ¬ 0 < k := by omega
                clear hk0
                go_wp2_with (first
                  | refine wpList_eql (by rfl) .neq 9 _ _ _ rfl (.string x.f) (.string ⟨#[]⟩) rfl rfl (.bool true) (guard_ne _ _ _ _) (fun W => HN1.out W) ?_
                  | refine wpList_eql (by rfl) .neq 9 _ _ _ rfl (.string x.f) (.string ⟨#[120]⟩) rfl rfl (.bool true) (guard_ne _ _ _ _) (fun W => HN2.out W) ?_
                  | refine wpList_eql (by rfl) .neq 9 _ _ _ rfl (.string x.f) (.string ⟨#[108]⟩) rfl rfl (.bool false) (guard_ne _ _ _ _) (fun W => HN3.out W) ?_)
                clear hgt hgt2
                go_loop [5] (fun i => ∃ m : Nat, m ≤ n ∧ i = .int .i64 (m : Int) ∧ ∀ q ∈ xs.take m, under x.p q.p = false) (fun i => n - (intOf i).toNat)
                case atStart => exact ⟨0, by omega, rfl, fun q hq => absurd hq (by simp)⟩
                case round =>
                  obtain ⟨m, hm, rfl, hun⟩ := hrel
                  have HUN := Lib.hid hun
                  have WM := Lib.hid (next_int m (by have := HNB.out; omega))
                  clear hun
                  by_cases hmn : m = n
                  · have HALLU : Hid (∀ p ∈ xs.take (k + 1), ∀ q ∈ xs, under p.p q.p = false) := fun p hp q hq => by
                      rw [take_snoc HP.out] at hp
                      rcases List.mem_append.1 hp with hp | hp
                      · exact HNO.out p hp q hq
                      · rw [List.mem_singleton.1 hp]
                        have := HUN.out
                        rw [hmn, List.take_of_length_le (by rw [HN.out]; omega)] at this
                        exact this q hq
                    have HOKA : Hid (∀ j x', j < k + 1 → xs[j]? = some x' → okAt xs j x' = true) := fun j x' hj hx' => by
                      by_cases hjk : j = k
                      · subst hjk
                        rw [HP.out] at hx'
                        injection hx' with hx'
                        subst hx'
                        exact HGOOD.out
                      · exact HOK.out j x' (by omega) hx'
                    have hmi : ¬ (m : Int) < (n : Int) := by omega
                    have HKN2 := HKN
                    clear hmn hm
                    go_wp2_with fail
                    exact ⟨⟨k + 1, by have := HKN2.out; omega, by rw [WK.out _ rfl], HB1.out, HOKA.out, HALLU.out⟩, by have := HKN2.out; rw [WK.out _ rfl]; simp [intOf]; omega⟩
                  · have hml : m < n := by omega
                    have hmi : (m : Int) < (n : Int) := by omega
                    obtain ⟨z, hz⟩ : ∃ z, xs[m]? = some z := ⟨_, List.getElem?_eq_getElem (by rw [HN.out]; exact hml)⟩
                    have HZ := Lib.hid hz
                    have hcz := range_path (HROW.out m z hz v1 HB1.out)
                    have HSTEP : Hid (under x.p z.p = false → ∀ q ∈ xs.take (m + 1), under x.p q.p = false) := fun hu q hq => by
                      rw [take_snoc HZ.out] at hq
                      rcases List.mem_append.1 hq with hq | hq
                      · exact HUN.out q hq
                      · rw [List.mem_singleton.1 hq]; exact hu
                    clear hz hmn
                    by_cases hlt : x.p.size < z.p.size
                    · have hlti : (x.p.size : Int) < (z.p.size : Int) := by omega
                      have hsl := fun W => slice_front z.p x.p.size (by omega) _ rfl W
                      have hix := fun W => index_text z.p x.p.size hlt (x.p.size : Int) rfl W
                      have HGET : Hid (z.p.data.toList[x.p.size]? = some (z.p[x.p.size]'hlt)) := Lib.data_getElem? z.p x.p.size hlt
                      rw [at8_is z.p x.p.size hlt] at hix
                      obtain ⟨bt, hbt⟩ : ∃ b, z.p[x.p.size]'hlt = b := ⟨_, rfl⟩
                      rw [hbt] at hix HGET
                      obtain ⟨e, he⟩ : ∃ e, ((z.p.extract 0 x.p.size).data.toList == x.p.data.toList) = e := ⟨_, rfl⟩
                      have HEQ : Hid (∀ W, (binOp .eql 9 (.string (z.p.extract 0 x.p.size)) (.string x.p)).run Tryd.prog W = .ok (.bool e) W) := fun W => by rw [str_eql, he]
                      have HEE := Lib.hid he
                      have HLT := Lib.hid hlt
                      clear hbt he hlt
                      cases e
                      · have HU : Hid (under x.p z.p = false) := by
                          show _ = _
                          cases hu : under x.p z.p
                          · rfl
                          · have h2 := ((under_iff _ _).1 hu).2.1
                            have h3 := HEE.out
                            rw [h2, beq_self_eq_true] at h3
                            cases h3
                        have HS2 := Lib.hid (HSTEP.out HU.out)
                        go_wp2_with (first
                          | refine wpList_eql (by rfl) .eql 9 _ _ _ rfl (.string (z.p.extract 0 x.p.size)) (.string x.p) rfl rfl (.bool false) (guard_eq _ _ _ _) (fun W => HEQ.out W) ?_)
                        exact ⟨⟨m + 1, by omega, by rw [WM.out _ rfl], HS2.out⟩, by rw [WM.out _ rfl]; simp [intOf]; omega⟩
                      · by_cases h47 : bt = 47
                        · subst h47
                          have HU : Hid (under x.p z.p = true) := (under_iff _ _).2 ⟨HLT.out, bytes_ext (beq_iff_eq.1 HEE.out), HGET.out⟩
                          have HRM : Hid (rightM xs = false) := rightM_under (List.mem_of_getElem? HP.out) (List.mem_of_getElem? HZ.out) HU.out
                          have h47i : ((47 : UInt8).toNat : Int) = 47 := rfl
                          rw [h47i] at hix
                          go_wp2_with (first
                            | refine wpList_eql (by rfl) .eql 9 _ _ _ rfl (.string (z.p.extract 0 x.p.size)) (.string x.p) rfl rfl (.bool true) (guard_eq _ _ _ _) (fun W => HEQ.out W) ?_)
                          (try simp only [Exit.inBlock, Exit.then])
                          go_ret
                          exact ⟨by rw [HRM.out]; rfl, HB1.out⟩
                        · have HU : Hid (under x.p z.p = false) := by
                            show _ = _
                            cases hu : under x.p z.p
                            · rfl
                            · have h3 := ((under_iff _ _).1 hu).2.2
                              rw [HGET.out] at h3
                              injection h3 with h3
                              exact absurd h3 h47
                          have HS2 := Lib.hid (HSTEP.out HU.out)
                          have h47i : ¬ ((bt.toNat : Nat) : Int) = 47 := fun e => h47 (by
                            have : bt.toNat = 47 := by omega
                            rw [← UInt8.toNat_inj, this]; rfl)
                          clear h47 HGET
                          generalize ((bt.toNat : Nat) : Int) = bi at *
                          go_wp2_with (first
                            | refine wpList_eql (by rfl) .eql 9 _ _ _ rfl (.string (z.p.extract 0 x.p.size)) (.string x.p) rfl rfl (.bool true) (guard_eq _ _ _ _) (fun W => HEQ.out W) ?_)
                          exact ⟨⟨m + 1, by omega, by rw [WM.out _ rfl], HS2.out⟩, by rw [WM.out _ rfl]; simp [intOf]; omega⟩
                    · have hlti : ¬ (x.p.size : Int) < (z.p.size : Int) := by omega
                      have HU : Hid (under x.p z.p = false) := by
                        show _ = _
                        cases hu : under x.p z.p
                        · rfl
                        · exact absurd ((under_iff _ _).1 hu).1 hlt
                      have HS2 := Lib.hid (HSTEP.out HU.out)
                      clear hlt
                      go_wp2_with fail
                      exact ⟨⟨m + 1, by omega, by rw [WM.out _ rfl], HS2.out⟩, by rw [WM.out _ rfl]; simp [intOf]; omega⟩
              · obtain ⟨j, hj⟩ : ∃ j, k = j + 1 := ⟨k - 1, by omega⟩
                obtain ⟨y, hy⟩ : ∃ y, xs[j]? = some y := ⟨_, List.getElem?_eq_getElem (by have := HKN.out; rw [HN.out]; omega)⟩
                have HY := Lib.hid hy
                have hcy := range_path (HROW.out j y hy v1 HB1.out)
                obtain ⟨bl, hbl⟩ : ∃ r, Op.bytesLess y.p.toList x.p.toList = r := ⟨_, rfl⟩
                have HOKB : Hid (okAt xs k x = bl) := by show _ = _; rw [hj]; unfold okAt; rw [HRL.out, HFO.out]; simp only [HY.out]; rw [hbl]; rfl
                have HGE := Lib.hid (geq_str y.p x.p bl hbl)
                have hsub : wrap64 ((k : Int) - 1) = (j : Int) := by
                  rw [show ((k : Int) - 1) = (j : Int) by omega]
                  exact IntWalk.wrap64_in _ (by have := HNB.out; have := HKN.out; omega)
                have hgt : (0 : Int) < (k : Int) := by omega
                have hgt2 : 0 < k := by omega
                have hjn : (j : Int) < (n : Int) := by have := HKN.out; omega
                have hj0 : ¬ (j : Int) < 0 := by omega
                clear hy hbl hj hk0
                cases bl
                · have HBAD := HOKB
                  go_wp2_with (first
                    | refine wpList_eql (by rfl) .neq 9 _ _ _ rfl (.string x.f) (.string ⟨#[]⟩) rfl rfl (.bool true) (guard_ne _ _ _ _) (fun W => HN1.out W) ?_
                    | refine wpList_eql (by rfl) .neq 9 _ _ _ rfl (.string x.f) (.string ⟨#[120]⟩) rfl rfl (.bool true) (guard_ne _ _ _ _) (fun W => HN2.out W) ?_
                    | refine wpList_eql (by rfl) .neq 9 _ _ _ rfl (.string x.f) (.string ⟨#[108]⟩) rfl rfl (.bool false) (guard_ne _ _ _ _) (fun W => HN3.out W) ?_
                    | refine wpList_eql (by rfl) .geq 9 _ _ _ rfl (.string y.p) (.string x.p) rfl rfl (.bool true) (guard_geq2 _ _ _ _) (fun W => HGE.out W) ?_)
                  (try simp only [Exit.inBlock, Exit.then])
                  go_ret
                  exact ⟨by rw [rightM_bad HP.out HBAD.out]; rfl, HB1.out⟩
                · have HGOOD := HOKB
                  go_wp2_with (first
                    | refine wpList_eql (by rfl) .neq 9 _ _ _ rfl (.string x.f) (.string ⟨#[]⟩) rfl rfl (.bool true) (guard_ne _ _ _ _) (fun W => HN1.out W) ?_
                    | refine wpList_eql (by rfl) .neq 9 _ _ _ rfl (.string x.f) (.string ⟨#[120]⟩) rfl rfl (.bool true) (guard_ne _ _ _ _) (fun W => HN2.out W) ?_
                    | refine wpList_eql (by rfl) .neq 9 _ _ _ rfl (.string x.f) (.string ⟨#[108]⟩) rfl rfl (.bool false) (guard_ne _ _ _ _) (fun W => HN3.out W) ?_
                    | refine wpList_eql (by rfl) .geq 9 _ _ _ rfl (.string y.p) (.string x.p) rfl rfl (.bool false) (guard_geq2 _ _ _ _) (fun W => HGE.out W) ?_)
                  clear hgt hgt2
                  go_loop [5] (fun i => ∃ m : Nat, m ≤ n ∧ i = .int .i64 (m : Int) ∧ ∀ q ∈ xs.take m, under x.p q.p = false) (fun i => n - (intOf i).toNat)
                  case atStart => exact ⟨0, by omega, rfl, fun q hq => absurd hq (by simp)⟩
                  case round =>
                    obtain ⟨m, hm, rfl, hun⟩ := hrel
                    have HUN := Lib.hid hun
                    have WM := Lib.hid (next_int m (by have := HNB.out; omega))
                    clear hun
                    by_cases hmn : m = n
                    · have HALLU : Hid (∀ p ∈ xs.take (k + 1), ∀ q ∈ xs, under p.p q.p = false) := fun p hp q hq => by
                        rw [take_snoc HP.out] at hp
                        rcases List.mem_append.1 hp with hp | hp
                        · exact HNO.out p hp q hq
                        · rw [List.mem_singleton.1 hp]
                          have := HUN.out
                          rw [hmn, List.take_of_length_le (by rw [HN.out]; omega)] at this
                          exact this q hq
                      have HOKA : Hid (∀ j x', j < k + 1 → xs[j]? = some x' → okAt xs j x' = true) := fun j x' hj hx' => by
                        by_cases hjk : j = k
                        · subst hjk
                          rw [HP.out] at hx'
                          injection hx' with hx'
                          subst hx'
                          exact HGOOD.out
                        · exact HOK.out j x' (by omega) hx'
                      have hmi : ¬ (m : Int) < (n : Int) := by omega
                      have HKN2 := HKN
                      clear hmn hm
                      go_wp2_with fail
                      exact ⟨⟨k + 1, by have := HKN2.out; omega, by rw [WK.out _ rfl], HB1.out, HOKA.out, HALLU.out⟩, by have := HKN2.out; rw [WK.out _ rfl]; simp [intOf]; omega⟩
                    · have hml : m < n := by omega
                      have hmi : (m : Int) < (n : Int) := by omega
                      obtain ⟨z, hz⟩ : ∃ z, xs[m]? = some z := ⟨_, List.getElem?_eq_getElem (by rw [HN.out]; exact hml)⟩
                      have HZ := Lib.hid hz
                      have hcz := range_path (HROW.out m z hz v1 HB1.out)
                      have HSTEP : Hid (under x.p z.p = false → ∀ q ∈ xs.take (m + 1), under x.p q.p = false) := fun hu q hq => by
                        rw [take_snoc HZ.out] at hq
                        rcases List.mem_append.1 hq with hq | hq
                        · exact HUN.out q hq
                        · rw [List.mem_singleton.1 hq]; exact hu
                      clear hz hmn
                      by_cases hlt : x.p.size < z.p.size
                      · have hlti : (x.p.size : Int) < (z.p.size : Int) := by omega
                        have hsl := fun W => slice_front z.p x.p.size (by omega) _ rfl W
                        have hix := fun W => index_text z.p x.p.size hlt (x.p.size : Int) rfl W
                        have HGET : Hid (z.p.data.toList[x.p.size]? = some (z.p[x.p.size]'hlt)) := Lib.data_getElem? z.p x.p.size hlt
                        rw [at8_is z.p x.p.size hlt] at hix
                        obtain ⟨bt, hbt⟩ : ∃ b, z.p[x.p.size]'hlt = b := ⟨_, rfl⟩
                        rw [hbt] at hix HGET
                        obtain ⟨e, he⟩ : ∃ e, ((z.p.extract 0 x.p.size).data.toList == x.p.data.toList) = e := ⟨_, rfl⟩
                        have HEQ : Hid (∀ W, (binOp .eql 9 (.string (z.p.extract 0 x.p.size)) (.string x.p)).run Tryd.prog W = .ok (.bool e) W) := fun W => by rw [str_eql, he]
                        have HEE := Lib.hid he
                        have HLT := Lib.hid hlt
                        clear hbt he hlt
                        cases e
                        · have HU : Hid (under x.p z.p = false) := by
                            show _ = _
                            cases hu : under x.p z.p
                            · rfl
                            · have h2 := ((under_iff _ _).1 hu).2.1
                              have h3 := HEE.out
                              rw [h2, beq_self_eq_true] at h3
                              cases h3
                          have HS2 := Lib.hid (HSTEP.out HU.out)
                          go_wp2_with (first
                            | refine wpList_eql (by rfl) .eql 9 _ _ _ rfl (.string (z.p.extract 0 x.p.size)) (.string x.p) rfl rfl (.bool false) (guard_eq _ _ _ _) (fun W => HEQ.out W) ?_)
                          exact ⟨⟨m + 1, by omega, by rw [WM.out _ rfl], HS2.out⟩, by rw [WM.out _ rfl]; simp [intOf]; omega⟩
                        · by_cases h47 : bt = 47
                          · subst h47
                            have HU : Hid (under x.p z.p = true) := (under_iff _ _).2 ⟨HLT.out, bytes_ext (beq_iff_eq.1 HEE.out), HGET.out⟩
                            have HRM : Hid (rightM xs = false) := rightM_under (List.mem_of_getElem? HP.out) (List.mem_of_getElem? HZ.out) HU.out
                            have h47i : ((47 : UInt8).toNat : Int) = 47 := rfl
                            rw [h47i] at hix
                            go_wp2_with (first
                              | refine wpList_eql (by rfl) .eql 9 _ _ _ rfl (.string (z.p.extract 0 x.p.size)) (.string x.p) rfl rfl (.bool true) (guard_eq _ _ _ _) (fun W => HEQ.out W) ?_)
                            (try simp only [Exit.inBlock, Exit.then])
                            go_ret
                            exact ⟨by rw [HRM.out]; rfl, HB1.out⟩
                          · have HU : Hid (under x.p z.p = false) := by
                              show _ = _
                              cases hu : under x.p z.p
                              · rfl
                              · have h3 := ((under_iff _ _).1 hu).2.2
                                rw [HGET.out] at h3
                                injection h3 with h3
                                exact absurd h3 h47
                            have HS2 := Lib.hid (HSTEP.out HU.out)
                            have h47i : ¬ ((bt.toNat : Nat) : Int) = 47 := fun e => h47 (by
                              have : bt.toNat = 47 := by omega
                              rw [← UInt8.toNat_inj, this]; rfl)
                            clear h47 HGET
                            generalize ((bt.toNat : Nat) : Int) = bi at *
                            go_wp2_with (first
                              | refine wpList_eql (by rfl) .eql 9 _ _ _ rfl (.string (z.p.extract 0 x.p.size)) (.string x.p) rfl rfl (.bool true) (guard_eq _ _ _ _) (fun W => HEQ.out W) ?_)
                            exact ⟨⟨m + 1, by omega, by rw [WM.out _ rfl], HS2.out⟩, by rw [WM.out _ rfl]; simp [intOf]; omega⟩
                      · have hlti : ¬ (x.p.size : Int) < (z.p.size : Int) := by omega
                        have HU : Hid (under x.p z.p = false) := by
                          show _ = _
                          cases hu : under x.p z.p
                          · rfl
                          · exact absurd ((under_iff _ _).1 hu).1 hlt
                        have HS2 := Lib.hid (HSTEP.out HU.out)
                        clear hlt
                        go_wp2_with fail
                        exact ⟨⟨m + 1, by omega, by rw [WM.out _ rfl], HS2.out⟩, by rw [WM.out _ rfl]; simp [intOf]; omega⟩
          · have HFO : Hid (flagOk x.f = true) := HFO0.out
            by_cases hk0 : k = 0
            · have HGOOD : Hid (okAt xs k x = true) := by show _ = _; rw [hk0]; unfold okAt; rw [HRL.out, HFO.out]; rfl
              have hgt : ¬ (0 : Int) < (k : Int) := by omega
              have hgt2 : ¬ 0 < k := by omega
              clear hk0
              go_wp2_with (first
                | refine wpList_eql (by rfl) .neq 9 _ _ _ rfl (.string x.f) (.string ⟨#[]⟩) rfl rfl (.bool true) (guard_ne _ _ _ _) (fun W => HN1.out W) ?_
                | refine wpList_eql (by rfl) .neq 9 _ _ _ rfl (.string x.f) (.string ⟨#[120]⟩) rfl rfl (.bool false) (guard_ne _ _ _ _) (fun W => HN2.out W) ?_)
              clear hgt hgt2
              go_loop [5] (fun i => ∃ m : Nat, m ≤ n ∧ i = .int .i64 (m : Int) ∧ ∀ q ∈ xs.take m, under x.p q.p = false) (fun i => n - (intOf i).toNat)
              case atStart => exact ⟨0, by omega, rfl, fun q hq => absurd hq (by simp)⟩
              case round =>
                obtain ⟨m, hm, rfl, hun⟩ := hrel
                have HUN := Lib.hid hun
                have WM := Lib.hid (next_int m (by have := HNB.out; omega))
                clear hun
                by_cases hmn : m = n
                · have HALLU : Hid (∀ p ∈ xs.take (k + 1), ∀ q ∈ xs, under p.p q.p = false) := fun p hp q hq => by
                    rw [take_snoc HP.out] at hp
                    rcases List.mem_append.1 hp with hp | hp
                    · exact HNO.out p hp q hq
                    · rw [List.mem_singleton.1 hp]
                      have := HUN.out
                      rw [hmn, List.take_of_length_le (by rw [HN.out]; omega)] at this
                      exact this q hq
                  have HOKA : Hid (∀ j x', j < k + 1 → xs[j]? = some x' → okAt xs j x' = true) := fun j x' hj hx' => by
                    by_cases hjk : j = k
                    · subst hjk
                      rw [HP.out] at hx'
                      injection hx' with hx'
                      subst hx'
                      exact HGOOD.out
                    · exact HOK.out j x' (by omega) hx'
                  have hmi : ¬ (m : Int) < (n : Int) := by omega
                  have HKN2 := HKN
                  clear hmn hm
                  go_wp2_with fail
                  exact ⟨⟨k + 1, by have := HKN2.out; omega, by rw [WK.out _ rfl], HB1.out, HOKA.out, HALLU.out⟩, by have := HKN2.out; rw [WK.out _ rfl]; simp [intOf]; omega⟩
                · have hml : m < n := by omega
                  have hmi : (m : Int) < (n : Int) := by omega
                  obtain ⟨z, hz⟩ : ∃ z, xs[m]? = some z := ⟨_, List.getElem?_eq_getElem (by rw [HN.out]; exact hml)⟩
                  have HZ := Lib.hid hz
                  have hcz := range_path (HROW.out m z hz v1 HB1.out)
                  have HSTEP : Hid (under x.p z.p = false → ∀ q ∈ xs.take (m + 1), under x.p q.p = false) := fun hu q hq => by
                    rw [take_snoc HZ.out] at hq
                    rcases List.mem_append.1 hq with hq | hq
                    · exact HUN.out q hq
                    · rw [List.mem_singleton.1 hq]; exact hu
                  clear hz hmn
                  by_cases hlt : x.p.size < z.p.size
                  · have hlti : (x.p.size : Int) < (z.p.size : Int) := by omega
                    have hsl := fun W => slice_front z.p x.p.size (by omega) _ rfl W
                    have hix := fun W => index_text z.p x.p.size hlt (x.p.size : Int) rfl W
                    have HGET : Hid (z.p.data.toList[x.p.size]? = some (z.p[x.p.size]'hlt)) := Lib.data_getElem? z.p x.p.size hlt
                    rw [at8_is z.p x.p.size hlt] at hix
                    obtain ⟨bt, hbt⟩ : ∃ b, z.p[x.p.size]'hlt = b := ⟨_, rfl⟩
                    rw [hbt] at hix HGET
                    obtain ⟨e, he⟩ : ∃ e, ((z.p.extract 0 x.p.size).data.toList == x.p.data.toList) = e := ⟨_, rfl⟩
                    have HEQ : Hid (∀ W, (binOp .eql 9 (.string (z.p.extract 0 x.p.size)) (.string x.p)).run Tryd.prog W = .ok (.bool e) W) := fun W => by rw [str_eql, he]
                    have HEE := Lib.hid he
                    have HLT := Lib.hid hlt
                    clear hbt he hlt
                    cases e
                    · have HU : Hid (under x.p z.p = false) := by
                        show _ = _
                        cases hu : under x.p z.p
                        · rfl
                        · have h2 := ((under_iff _ _).1 hu).2.1
                          have h3 := HEE.out
                          rw [h2, beq_self_eq_true] at h3
                          cases h3
                      have HS2 := Lib.hid (HSTEP.out HU.out)
                      go_wp2_with (first
                        | refine wpList_eql (by rfl) .eql 9 _ _ _ rfl (.string (z.p.extract 0 x.p.size)) (.string x.p) rfl rfl (.bool false) (guard_eq _ _ _ _) (fun W => HEQ.out W) ?_)
                      exact ⟨⟨m + 1, by omega, by rw [WM.out _ rfl], HS2.out⟩, by rw [WM.out _ rfl]; simp [intOf]; omega⟩
                    · by_cases h47 : bt = 47
                      · subst h47
                        have HU : Hid (under x.p z.p = true) := (under_iff _ _).2 ⟨HLT.out, bytes_ext (beq_iff_eq.1 HEE.out), HGET.out⟩
                        have HRM : Hid (rightM xs = false) := rightM_under (List.mem_of_getElem? HP.out) (List.mem_of_getElem? HZ.out) HU.out
                        have h47i : ((47 : UInt8).toNat : Int) = 47 := rfl
                        rw [h47i] at hix
                        go_wp2_with (first
                          | refine wpList_eql (by rfl) .eql 9 _ _ _ rfl (.string (z.p.extract 0 x.p.size)) (.string x.p) rfl rfl (.bool true) (guard_eq _ _ _ _) (fun W => HEQ.out W) ?_)
                        (try simp only [Exit.inBlock, Exit.then])
                        go_ret
                        exact ⟨by rw [HRM.out]; rfl, HB1.out⟩
                      · have HU : Hid (under x.p z.p = false) := by
                          show _ = _
                          cases hu : under x.p z.p
                          · rfl
                          · have h3 := ((under_iff _ _).1 hu).2.2
                            rw [HGET.out] at h3
                            injection h3 with h3
                            exact absurd h3 h47
                        have HS2 := Lib.hid (HSTEP.out HU.out)
                        have h47i : ¬ ((bt.toNat : Nat) : Int) = 47 := fun e => h47 (by
                          have : bt.toNat = 47 := by omega
                          rw [← UInt8.toNat_inj, this]; rfl)
                        clear h47 HGET
                        generalize ((bt.toNat : Nat) : Int) = bi at *
                        go_wp2_with (first
                          | refine wpList_eql (by rfl) .eql 9 _ _ _ rfl (.string (z.p.extract 0 x.p.size)) (.string x.p) rfl rfl (.bool true) (guard_eq _ _ _ _) (fun W => HEQ.out W) ?_)
                        exact ⟨⟨m + 1, by omega, by rw [WM.out _ rfl], HS2.out⟩, by rw [WM.out _ rfl]; simp [intOf]; omega⟩
                  · have hlti : ¬ (x.p.size : Int) < (z.p.size : Int) := by omega
                    have HU : Hid (under x.p z.p = false) := by
                      show _ = _
                      cases hu : under x.p z.p
                      · rfl
                      · exact absurd ((under_iff _ _).1 hu).1 hlt
                    have HS2 := Lib.hid (HSTEP.out HU.out)
                    clear hlt
                    go_wp2_with fail
                    exact ⟨⟨m + 1, by omega, by rw [WM.out _ rfl], HS2.out⟩, by rw [WM.out _ rfl]; simp [intOf]; omega⟩
            · obtain ⟨j, hj⟩ : ∃ j, k = j + 1 := ⟨k - 1, by omega⟩
              obtain ⟨y, hy⟩ : ∃ y, xs[j]? = some y := ⟨_, List.getElem?_eq_getElem (by have := HKN.out; rw [HN.out]; omega)⟩
              have HY := Lib.hid hy
              have hcy := range_path (HROW.out j y hy v1 HB1.out)
              obtain ⟨bl, hbl⟩ : ∃ r, Op.bytesLess y.p.toList x.p.toList = r := ⟨_, rfl⟩
              have HOKB : Hid (okAt xs k x = bl) := by show _ = _; rw [hj]; unfold okAt; rw [HRL.out, HFO.out]; simp only [HY.out]; rw [hbl]; rfl
              have HGE := Lib.hid (geq_str y.p x.p bl hbl)
              have hsub : wrap64 ((k : Int) - 1) = (j : Int) := by
                rw [show ((k : Int) - 1) = (j : Int) by omega]
                exact IntWalk.wrap64_in _ (by have := HNB.out; have := HKN.out; omega)
              have hgt : (0 : Int) < (k : Int) := by omega
              have hgt2 : 0 < k := by omega
              have hjn : (j : Int) < (n : Int) := by have := HKN.out; omega
              have hj0 : ¬ (j : Int) < 0 := by omega
              clear hy hbl hj hk0
              cases bl
              · have HBAD := HOKB
                go_wp2_with (first
                  | refine wpList_eql (by rfl) .neq 9 _ _ _ rfl (.string x.f) (.string ⟨#[]⟩) rfl rfl (.bool true) (guard_ne _ _ _ _) (fun W => HN1.out W) ?_
                  | refine wpList_eql (by rfl) .neq 9 _ _ _ rfl (.string x.f) (.string ⟨#[120]⟩) rfl rfl (.bool false) (guard_ne _ _ _ _) (fun W => HN2.out W) ?_
                  | refine wpList_eql (by rfl) .geq 9 _ _ _ rfl (.string y.p) (.string x.p) rfl rfl (.bool true) (guard_geq2 _ _ _ _) (fun W => HGE.out W) ?_)
                (try simp only [Exit.inBlock, Exit.then])
                go_ret
                exact ⟨by rw [rightM_bad HP.out HBAD.out]; rfl, HB1.out⟩
              · have HGOOD := HOKB
                go_wp2_with (first
                  | refine wpList_eql (by rfl) .neq 9 _ _ _ rfl (.string x.f) (.string ⟨#[]⟩) rfl rfl (.bool true) (guard_ne _ _ _ _) (fun W => HN1.out W) ?_
                  | refine wpList_eql (by rfl) .neq 9 _ _ _ rfl (.string x.f) (.string ⟨#[120]⟩) rfl rfl (.bool false) (guard_ne _ _ _ _) (fun W => HN2.out W) ?_
                  | refine wpList_eql (by rfl) .geq 9 _ _ _ rfl (.string y.p) (.string x.p) rfl rfl (.bool false) (guard_geq2 _ _ _ _) (fun W => HGE.out W) ?_)
                clear hgt hgt2
                go_loop [5] (fun i => ∃ m : Nat, m ≤ n ∧ i = .int .i64 (m : Int) ∧ ∀ q ∈ xs.take m, under x.p q.p = false) (fun i => n - (intOf i).toNat)
                case atStart => exact ⟨0, by omega, rfl, fun q hq => absurd hq (by simp)⟩
                case round =>
                  obtain ⟨m, hm, rfl, hun⟩ := hrel
                  have HUN := Lib.hid hun
                  have WM := Lib.hid (next_int m (by have := HNB.out; omega))
                  clear hun
                  by_cases hmn : m = n
                  · have HALLU : Hid (∀ p ∈ xs.take (k + 1), ∀ q ∈ xs, under p.p q.p = false) := fun p hp q hq => by
                      rw [take_snoc HP.out] at hp
                      rcases List.mem_append.1 hp with hp | hp
                      · exact HNO.out p hp q hq
                      · rw [List.mem_singleton.1 hp]
                        have := HUN.out
                        rw [hmn, List.take_of_length_le (by rw [HN.out]; omega)] at this
                        exact this q hq
                    have HOKA : Hid (∀ j x', j < k + 1 → xs[j]? = some x' → okAt xs j x' = true) := fun j x' hj hx' => by
                      by_cases hjk : j = k
                      · subst hjk
                        rw [HP.out] at hx'
                        injection hx' with hx'
                        subst hx'
                        exact HGOOD.out
                      · exact HOK.out j x' (by omega) hx'
                    have hmi : ¬ (m : Int) < (n : Int) := by omega
                    have HKN2 := HKN
                    clear hmn hm
                    go_wp2_with fail
                    exact ⟨⟨k + 1, by have := HKN2.out; omega, by rw [WK.out _ rfl], HB1.out, HOKA.out, HALLU.out⟩, by have := HKN2.out; rw [WK.out _ rfl]; simp [intOf]; omega⟩
                  · have hml : m < n := by omega
                    have hmi : (m : Int) < (n : Int) := by omega
                    obtain ⟨z, hz⟩ : ∃ z, xs[m]? = some z := ⟨_, List.getElem?_eq_getElem (by rw [HN.out]; exact hml)⟩
                    have HZ := Lib.hid hz
                    have hcz := range_path (HROW.out m z hz v1 HB1.out)
                    have HSTEP : Hid (under x.p z.p = false → ∀ q ∈ xs.take (m + 1), under x.p q.p = false) := fun hu q hq => by
                      rw [take_snoc HZ.out] at hq
                      rcases List.mem_append.1 hq with hq | hq
                      · exact HUN.out q hq
                      · rw [List.mem_singleton.1 hq]; exact hu
                    clear hz hmn
                    by_cases hlt : x.p.size < z.p.size
                    · have hlti : (x.p.size : Int) < (z.p.size : Int) := by omega
                      have hsl := fun W => slice_front z.p x.p.size (by omega) _ rfl W
                      have hix := fun W => index_text z.p x.p.size hlt (x.p.size : Int) rfl W
                      have HGET : Hid (z.p.data.toList[x.p.size]? = some (z.p[x.p.size]'hlt)) := Lib.data_getElem? z.p x.p.size hlt
                      rw [at8_is z.p x.p.size hlt] at hix
                      obtain ⟨bt, hbt⟩ : ∃ b, z.p[x.p.size]'hlt = b := ⟨_, rfl⟩
                      rw [hbt] at hix HGET
                      obtain ⟨e, he⟩ : ∃ e, ((z.p.extract 0 x.p.size).data.toList == x.p.data.toList) = e := ⟨_, rfl⟩
                      have HEQ : Hid (∀ W, (binOp .eql 9 (.string (z.p.extract 0 x.p.size)) (.string x.p)).run Tryd.prog W = .ok (.bool e) W) := fun W => by rw [str_eql, he]
                      have HEE := Lib.hid he
                      have HLT := Lib.hid hlt
                      clear hbt he hlt
                      cases e
                      · have HU : Hid (under x.p z.p = false) := by
                          show _ = _
                          cases hu : under x.p z.p
                          · rfl
                          · have h2 := ((under_iff _ _).1 hu).2.1
                            have h3 := HEE.out
                            rw [h2, beq_self_eq_true] at h3
                            cases h3
                        have HS2 := Lib.hid (HSTEP.out HU.out)
                        go_wp2_with (first
                          | refine wpList_eql (by rfl) .eql 9 _ _ _ rfl (.string (z.p.extract 0 x.p.size)) (.string x.p) rfl rfl (.bool false) (guard_eq _ _ _ _) (fun W => HEQ.out W) ?_)
                        exact ⟨⟨m + 1, by omega, by rw [WM.out _ rfl], HS2.out⟩, by rw [WM.out _ rfl]; simp [intOf]; omega⟩
                      · by_cases h47 : bt = 47
                        · subst h47
                          have HU : Hid (under x.p z.p = true) := (under_iff _ _).2 ⟨HLT.out, bytes_ext (beq_iff_eq.1 HEE.out), HGET.out⟩
                          have HRM : Hid (rightM xs = false) := rightM_under (List.mem_of_getElem? HP.out) (List.mem_of_getElem? HZ.out) HU.out
                          have h47i : ((47 : UInt8).toNat : Int) = 47 := rfl
                          rw [h47i] at hix
                          go_wp2_with (first
                            | refine wpList_eql (by rfl) .eql 9 _ _ _ rfl (.string (z.p.extract 0 x.p.size)) (.string x.p) rfl rfl (.bool true) (guard_eq _ _ _ _) (fun W => HEQ.out W) ?_)
                          (try simp only [Exit.inBlock, Exit.then])
                          go_ret
                          exact ⟨by rw [HRM.out]; rfl, HB1.out⟩
                        · have HU : Hid (under x.p z.p = false) := by
                            show _ = _
                            cases hu : under x.p z.p
                            · rfl
                            · have h3 := ((under_iff _ _).1 hu).2.2
                              rw [HGET.out] at h3
                              injection h3 with h3
                              exact absurd h3 h47
                          have HS2 := Lib.hid (HSTEP.out HU.out)
                          have h47i : ¬ ((bt.toNat : Nat) : Int) = 47 := fun e => h47 (by
                            have : bt.toNat = 47 := by omega
                            rw [← UInt8.toNat_inj, this]; rfl)
                          clear h47 HGET
                          generalize ((bt.toNat : Nat) : Int) = bi at *
                          go_wp2_with (first
                            | refine wpList_eql (by rfl) .eql 9 _ _ _ rfl (.string (z.p.extract 0 x.p.size)) (.string x.p) rfl rfl (.bool true) (guard_eq _ _ _ _) (fun W => HEQ.out W) ?_)
                          exact ⟨⟨m + 1, by omega, by rw [WM.out _ rfl], HS2.out⟩, by rw [WM.out _ rfl]; simp [intOf]; omega⟩
                    · have hlti : ¬ (x.p.size : Int) < (z.p.size : Int) := by omega
                      have HU : Hid (under x.p z.p = false) := by
                        show _ = _
                        cases hu : under x.p z.p
                        · rfl
                        · exact absurd ((under_iff _ _).1 hu).1 hlt
                      have HS2 := Lib.hid (HSTEP.out HU.out)
                      clear hlt
                      go_wp2_with fail
                      exact ⟨⟨m + 1, by omega, by rw [WM.out _ rfl], HS2.out⟩, by rw [WM.out _ rfl]; simp [intOf]; omega⟩
        · have HFO : Hid (flagOk x.f = true) := HFO0.out
          by_cases hk0 : k = 0
          · have HGOOD : Hid (okAt xs k x = true) := by show _ = _; rw [hk0]; unfold okAt; rw [HRL.out, HFO.out]; rfl
            have hgt : ¬ (0 : Int) < (k : Int) := by omega
            have hgt2 : ¬ 0 < k := by omega
            clear hk0
            go_wp2_with (first
              | refine wpList_eql (by rfl) .neq 9 _ _ _ rfl (.string x.f) (.string ⟨#[]⟩) rfl rfl (.bool false) (guard_ne _ _ _ _) (fun W => HN1.out W) ?_)
            clear hgt hgt2
            go_loop [5] (fun i => ∃ m : Nat, m ≤ n ∧ i = .int .i64 (m : Int) ∧ ∀ q ∈ xs.take m, under x.p q.p = false) (fun i => n - (intOf i).toNat)
            case atStart => exact ⟨0, by omega, rfl, fun q hq => absurd hq (by simp)⟩
            case round =>
              obtain ⟨m, hm, rfl, hun⟩ := hrel
              have HUN := Lib.hid hun
              have WM := Lib.hid (next_int m (by have := HNB.out; omega))
              clear hun
              by_cases hmn : m = n
              · have HALLU : Hid (∀ p ∈ xs.take (k + 1), ∀ q ∈ xs, under p.p q.p = false) := fun p hp q hq => by
                  rw [take_snoc HP.out] at hp
                  rcases List.mem_append.1 hp with hp | hp
                  · exact HNO.out p hp q hq
                  · rw [List.mem_singleton.1 hp]
                    have := HUN.out
                    rw [hmn, List.take_of_length_le (by rw [HN.out]; omega)] at this
                    exact this q hq
                have HOKA : Hid (∀ j x', j < k + 1 → xs[j]? = some x' → okAt xs j x' = true) := fun j x' hj hx' => by
                  by_cases hjk : j = k
                  · subst hjk
                    rw [HP.out] at hx'
                    injection hx' with hx'
                    subst hx'
                    exact HGOOD.out
                  · exact HOK.out j x' (by omega) hx'
                have hmi : ¬ (m : Int) < (n : Int) := by omega
                have HKN2 := HKN
                clear hmn hm
                go_wp2_with fail
                exact ⟨⟨k + 1, by have := HKN2.out; omega, by rw [WK.out _ rfl], HB1.out, HOKA.out, HALLU.out⟩, by have := HKN2.out; rw [WK.out _ rfl]; simp [intOf]; omega⟩
              · have hml : m < n := by omega
                have hmi : (m : Int) < (n : Int) := by omega
                obtain ⟨z, hz⟩ : ∃ z, xs[m]? = some z := ⟨_, List.getElem?_eq_getElem (by rw [HN.out]; exact hml)⟩
                have HZ := Lib.hid hz
                have hcz := range_path (HROW.out m z hz v1 HB1.out)
                have HSTEP : Hid (under x.p z.p = false → ∀ q ∈ xs.take (m + 1), under x.p q.p = false) := fun hu q hq => by
                  rw [take_snoc HZ.out] at hq
                  rcases List.mem_append.1 hq with hq | hq
                  · exact HUN.out q hq
                  · rw [List.mem_singleton.1 hq]; exact hu
                clear hz hmn
                by_cases hlt : x.p.size < z.p.size
                · have hlti : (x.p.size : Int) < (z.p.size : Int) := by omega
                  have hsl := fun W => slice_front z.p x.p.size (by omega) _ rfl W
                  have hix := fun W => index_text z.p x.p.size hlt (x.p.size : Int) rfl W
                  have HGET : Hid (z.p.data.toList[x.p.size]? = some (z.p[x.p.size]'hlt)) := Lib.data_getElem? z.p x.p.size hlt
                  rw [at8_is z.p x.p.size hlt] at hix
                  obtain ⟨bt, hbt⟩ : ∃ b, z.p[x.p.size]'hlt = b := ⟨_, rfl⟩
                  rw [hbt] at hix HGET
                  obtain ⟨e, he⟩ : ∃ e, ((z.p.extract 0 x.p.size).data.toList == x.p.data.toList) = e := ⟨_, rfl⟩
                  have HEQ : Hid (∀ W, (binOp .eql 9 (.string (z.p.extract 0 x.p.size)) (.string x.p)).run Tryd.prog W = .ok (.bool e) W) := fun W => by rw [str_eql, he]
                  have HEE := Lib.hid he
                  have HLT := Lib.hid hlt
                  clear hbt he hlt
                  cases e
                  · have HU : Hid (under x.p z.p = false) := by
                      show _ = _
                      cases hu : under x.p z.p
                      · rfl
                      · have h2 := ((under_iff _ _).1 hu).2.1
                        have h3 := HEE.out
                        rw [h2, beq_self_eq_true] at h3
                        cases h3
                    have HS2 := Lib.hid (HSTEP.out HU.out)
                    go_wp2_with (first
                      | refine wpList_eql (by rfl) .eql 9 _ _ _ rfl (.string (z.p.extract 0 x.p.size)) (.string x.p) rfl rfl (.bool false) (guard_eq _ _ _ _) (fun W => HEQ.out W) ?_)
                    exact ⟨⟨m + 1, by omega, by rw [WM.out _ rfl], HS2.out⟩, by rw [WM.out _ rfl]; simp [intOf]; omega⟩
                  · by_cases h47 : bt = 47
                    · subst h47
                      have HU : Hid (under x.p z.p = true) := (under_iff _ _).2 ⟨HLT.out, bytes_ext (beq_iff_eq.1 HEE.out), HGET.out⟩
                      have HRM : Hid (rightM xs = false) := rightM_under (List.mem_of_getElem? HP.out) (List.mem_of_getElem? HZ.out) HU.out
                      have h47i : ((47 : UInt8).toNat : Int) = 47 := rfl
                      rw [h47i] at hix
                      go_wp2_with (first
                        | refine wpList_eql (by rfl) .eql 9 _ _ _ rfl (.string (z.p.extract 0 x.p.size)) (.string x.p) rfl rfl (.bool true) (guard_eq _ _ _ _) (fun W => HEQ.out W) ?_)
                      (try simp only [Exit.inBlock, Exit.then])
                      go_ret
                      exact ⟨by rw [HRM.out]; rfl, HB1.out⟩
                    · have HU : Hid (under x.p z.p = false) := by
                        show _ = _
                        cases hu : under x.p z.p
                        · rfl
                        · have h3 := ((under_iff _ _).1 hu).2.2
                          rw [HGET.out] at h3
                          injection h3 with h3
                          exact absurd h3 h47
                      have HS2 := Lib.hid (HSTEP.out HU.out)
                      have h47i : ¬ ((bt.toNat : Nat) : Int) = 47 := fun e => h47 (by
                        have : bt.toNat = 47 := by omega
                        rw [← UInt8.toNat_inj, this]; rfl)
                      clear h47 HGET
                      generalize ((bt.toNat : Nat) : Int) = bi at *
                      go_wp2_with (first
                        | refine wpList_eql (by rfl) .eql 9 _ _ _ rfl (.string (z.p.extract 0 x.p.size)) (.string x.p) rfl rfl (.bool true) (guard_eq _ _ _ _) (fun W => HEQ.out W) ?_)
                      exact ⟨⟨m + 1, by omega, by rw [WM.out _ rfl], HS2.out⟩, by rw [WM.out _ rfl]; simp [intOf]; omega⟩
                · have hlti : ¬ (x.p.size : Int) < (z.p.size : Int) := by omega
                  have HU : Hid (under x.p z.p = false) := by
                    show _ = _
                    cases hu : under x.p z.p
                    · rfl
                    · exact absurd ((under_iff _ _).1 hu).1 hlt
                  have HS2 := Lib.hid (HSTEP.out HU.out)
                  clear hlt
                  go_wp2_with fail
                  exact ⟨⟨m + 1, by omega, by rw [WM.out _ rfl], HS2.out⟩, by rw [WM.out _ rfl]; simp [intOf]; omega⟩
          · obtain ⟨j, hj⟩ : ∃ j, k = j + 1 := ⟨k - 1, by omega⟩
            obtain ⟨y, hy⟩ : ∃ y, xs[j]? = some y := ⟨_, List.getElem?_eq_getElem (by have := HKN.out; rw [HN.out]; omega)⟩
            have HY := Lib.hid hy
            have hcy := range_path (HROW.out j y hy v1 HB1.out)
            obtain ⟨bl, hbl⟩ : ∃ r, Op.bytesLess y.p.toList x.p.toList = r := ⟨_, rfl⟩
            have HOKB : Hid (okAt xs k x = bl) := by show _ = _; rw [hj]; unfold okAt; rw [HRL.out, HFO.out]; simp only [HY.out]; rw [hbl]; rfl
            have HGE := Lib.hid (geq_str y.p x.p bl hbl)
            have hsub : wrap64 ((k : Int) - 1) = (j : Int) := by
              rw [show ((k : Int) - 1) = (j : Int) by omega]
              exact IntWalk.wrap64_in _ (by have := HNB.out; have := HKN.out; omega)
            have hgt : (0 : Int) < (k : Int) := by omega
            have hgt2 : 0 < k := by omega
            have hjn : (j : Int) < (n : Int) := by have := HKN.out; omega
            have hj0 : ¬ (j : Int) < 0 := by omega
            clear hy hbl hj hk0
            cases bl
            · have HBAD := HOKB
              go_wp2_with (first
                | refine wpList_eql (by rfl) .neq 9 _ _ _ rfl (.string x.f) (.string ⟨#[]⟩) rfl rfl (.bool false) (guard_ne _ _ _ _) (fun W => HN1.out W) ?_
                | refine wpList_eql (by rfl) .geq 9 _ _ _ rfl (.string y.p) (.string x.p) rfl rfl (.bool true) (guard_geq2 _ _ _ _) (fun W => HGE.out W) ?_)
              (try simp only [Exit.inBlock, Exit.then])
              go_ret
              exact ⟨by rw [rightM_bad HP.out HBAD.out]; rfl, HB1.out⟩
            · have HGOOD := HOKB
              go_wp2_with (first
                | refine wpList_eql (by rfl) .neq 9 _ _ _ rfl (.string x.f) (.string ⟨#[]⟩) rfl rfl (.bool false) (guard_ne _ _ _ _) (fun W => HN1.out W) ?_
                | refine wpList_eql (by rfl) .geq 9 _ _ _ rfl (.string y.p) (.string x.p) rfl rfl (.bool false) (guard_geq2 _ _ _ _) (fun W => HGE.out W) ?_)
              clear hgt hgt2
              go_loop [5] (fun i => ∃ m : Nat, m ≤ n ∧ i = .int .i64 (m : Int) ∧ ∀ q ∈ xs.take m, under x.p q.p = false) (fun i => n - (intOf i).toNat)
              case atStart => exact ⟨0, by omega, rfl, fun q hq => absurd hq (by simp)⟩
              case round =>
                obtain ⟨m, hm, rfl, hun⟩ := hrel
                have HUN := Lib.hid hun
                have WM := Lib.hid (next_int m (by have := HNB.out; omega))
                clear hun
                by_cases hmn : m = n
                · have HALLU : Hid (∀ p ∈ xs.take (k + 1), ∀ q ∈ xs, under p.p q.p = false) := fun p hp q hq => by
                    rw [take_snoc HP.out] at hp
                    rcases List.mem_append.1 hp with hp | hp
                    · exact HNO.out p hp q hq
                    · rw [List.mem_singleton.1 hp]
                      have := HUN.out
                      rw [hmn, List.take_of_length_le (by rw [HN.out]; omega)] at this
                      exact this q hq
                  have HOKA : Hid (∀ j x', j < k + 1 → xs[j]? = some x' → okAt xs j x' = true) := fun j x' hj hx' => by
                    by_cases hjk : j = k
                    · subst hjk
                      rw [HP.out] at hx'
                      injection hx' with hx'
                      subst hx'
                      exact HGOOD.out
                    · exact HOK.out j x' (by omega) hx'
                  have hmi : ¬ (m : Int) < (n : Int) := by omega
                  have HKN2 := HKN
                  clear hmn hm
                  go_wp2_with fail
                  exact ⟨⟨k + 1, by have := HKN2.out; omega, by rw [WK.out _ rfl], HB1.out, HOKA.out, HALLU.out⟩, by have := HKN2.out; rw [WK.out _ rfl]; simp [intOf]; omega⟩
                · have hml : m < n := by omega
                  have hmi : (m : Int) < (n : Int) := by omega
                  obtain ⟨z, hz⟩ : ∃ z, xs[m]? = some z := ⟨_, List.getElem?_eq_getElem (by rw [HN.out]; exact hml)⟩
                  have HZ := Lib.hid hz
                  have hcz := range_path (HROW.out m z hz v1 HB1.out)
                  have HSTEP : Hid (under x.p z.p = false → ∀ q ∈ xs.take (m + 1), under x.p q.p = false) := fun hu q hq => by
                    rw [take_snoc HZ.out] at hq
                    rcases List.mem_append.1 hq with hq | hq
                    · exact HUN.out q hq
                    · rw [List.mem_singleton.1 hq]; exact hu
                  clear hz hmn
                  by_cases hlt : x.p.size < z.p.size
                  · have hlti : (x.p.size : Int) < (z.p.size : Int) := by omega
                    have hsl := fun W => slice_front z.p x.p.size (by omega) _ rfl W
                    have hix := fun W => index_text z.p x.p.size hlt (x.p.size : Int) rfl W
                    have HGET : Hid (z.p.data.toList[x.p.size]? = some (z.p[x.p.size]'hlt)) := Lib.data_getElem? z.p x.p.size hlt
                    rw [at8_is z.p x.p.size hlt] at hix
                    obtain ⟨bt, hbt⟩ : ∃ b, z.p[x.p.size]'hlt = b := ⟨_, rfl⟩
                    rw [hbt] at hix HGET
                    obtain ⟨e, he⟩ : ∃ e, ((z.p.extract 0 x.p.size).data.toList == x.p.data.toList) = e := ⟨_, rfl⟩
                    have HEQ : Hid (∀ W, (binOp .eql 9 (.string (z.p.extract 0 x.p.size)) (.string x.p)).run Tryd.prog W = .ok (.bool e) W) := fun W => by rw [str_eql, he]
                    have HEE := Lib.hid he
                    have HLT := Lib.hid hlt
                    clear hbt he hlt
                    cases e
                    · have HU : Hid (under x.p z.p = false) := by
                        show _ = _
                        cases hu : under x.p z.p
                        · rfl
                        · have h2 := ((under_iff _ _).1 hu).2.1
                          have h3 := HEE.out
                          rw [h2, beq_self_eq_true] at h3
                          cases h3
                      have HS2 := Lib.hid (HSTEP.out HU.out)
                      go_wp2_with (first
                        | refine wpList_eql (by rfl) .eql 9 _ _ _ rfl (.string (z.p.extract 0 x.p.size)) (.string x.p) rfl rfl (.bool false) (guard_eq _ _ _ _) (fun W => HEQ.out W) ?_)
                      exact ⟨⟨m + 1, by omega, by rw [WM.out _ rfl], HS2.out⟩, by rw [WM.out _ rfl]; simp [intOf]; omega⟩
                    · by_cases h47 : bt = 47
                      · subst h47
                        have HU : Hid (under x.p z.p = true) := (under_iff _ _).2 ⟨HLT.out, bytes_ext (beq_iff_eq.1 HEE.out), HGET.out⟩
                        have HRM : Hid (rightM xs = false) := rightM_under (List.mem_of_getElem? HP.out) (List.mem_of_getElem? HZ.out) HU.out
                        have h47i : ((47 : UInt8).toNat : Int) = 47 := rfl
                        rw [h47i] at hix
                        go_wp2_with (first
                          | refine wpList_eql (by rfl) .eql 9 _ _ _ rfl (.string (z.p.extract 0 x.p.size)) (.string x.p) rfl rfl (.bool true) (guard_eq _ _ _ _) (fun W => HEQ.out W) ?_)
                        (try simp only [Exit.inBlock, Exit.then])
                        go_ret
                        exact ⟨by rw [HRM.out]; rfl, HB1.out⟩
                      · have HU : Hid (under x.p z.p = false) := by
                          show _ = _
                          cases hu : under x.p z.p
                          · rfl
                          · have h3 := ((under_iff _ _).1 hu).2.2
                            rw [HGET.out] at h3
                            injection h3 with h3
                            exact absurd h3 h47
                        have HS2 := Lib.hid (HSTEP.out HU.out)
                        have h47i : ¬ ((bt.toNat : Nat) : Int) = 47 := fun e => h47 (by
                          have : bt.toNat = 47 := by omega
                          rw [← UInt8.toNat_inj, this]; rfl)
                        clear h47 HGET
                        generalize ((bt.toNat : Nat) : Int) = bi at *
                        go_wp2_with (first
                          | refine wpList_eql (by rfl) .eql 9 _ _ _ rfl (.string (z.p.extract 0 x.p.size)) (.string x.p) rfl rfl (.bool true) (guard_eq _ _ _ _) (fun W => HEQ.out W) ?_)
                        exact ⟨⟨m + 1, by omega, by rw [WM.out _ rfl], HS2.out⟩, by rw [WM.out _ rfl]; simp [intOf]; omega⟩
                  · have hlti : ¬ (x.p.size : Int) < (z.p.size : Int) := by omega
                    have HU : Hid (under x.p z.p = false) := by
                      show _ = _
                      cases hu : under x.p z.p
                      · rfl
                      · exact absurd ((under_iff _ _).1 hu).1 hlt
                    have HS2 := Lib.hid (HSTEP.out HU.out)
                    clear hlt
                    go_wp2_with fail
                    exact ⟨⟨m + 1, by omega, by rw [WM.out _ rfl], HS2.out⟩, by rw [WM.out _ rfl]; simp [intOf]; omega⟩
end Go.Proofs.YtcccnnmcmeoajaaDoor
