/- manifest.right: the walk (a map whose keys alone count). -/
import Derived.Test.YtcbjadecocggjaaDoorMfMath
import Derived.Laws.Cover1
namespace Go.Proofs.YtcbjadecocggjaaDoor
open Go.RowKit Go.WideMaps Go.Maps Plain
set_option linter.unusedVariables false
set_option linter.unusedSimpArgs false
theorem guard_geq (x y : Operand) (s t : ByteArray) (W : World) : (eqGuard .geq 9 x y (.string s) (.string t)).run Tryd.prog W = .ok () W := by
  simp [eqGuard]
theorem geq_str (a b : ByteArray) (bl : Bool) (h : Op.bytesLess a.toList b.toList = bl) (W : World) : (binOp .geq 9 (.string a) (.string b)).run Tryd.prog W = .ok (.bool (!bl)) W := by
  rw [binOp_string_geq, h]; rfl
theorem key_str (s : ByteArray) (h : s.size ≤ 1000) : keyOf Tryd.prog 9 (.string s) = some (.string s.data.toList) := keyOf_string_mk Tryd.underlying9 (by unfold maxLen; omega)
set_option maxRecDepth 100000 in
set_option maxHeartbeats 64000000 in
theorem fright_any (a : Option Addr) (c : Nat) (xs : List MF) (w : World) (h : FsAt w a xs) (hn : xs.length ≤ 1000000) (hE : Env w) :
    Calls Tryd.prog 20 #[.slice a xs.length c] w fun e w' => e = .returned (.bool (rightM xs)) ∧ Below w.heap.size w w' := by
  have H := Lib.hid h
  have HE := Lib.hid hE
  have HK0 : Hid (KM (w.alloc (.map #[] 0)) w.heap.size []) := KeyMap.made w Tryd.prog 9 3 Value.string
  have HB0 : Hid (Below w.heap.size w (w.alloc (.map #[] 0))) := (Below.refl _ _).alloc (Nat.le_refl _) _
  obtain ⟨n, hnl⟩ : ∃ n, xs.length = n := ⟨_, rfl⟩
  have HN := Lib.hid hnl
  have HNB : Hid (n ≤ 1000000) := by show _ ≤ _; omega
  rw [hnl]
  clear h hn hE hnl
  have hzp := zero_file
  have hmm := @run_makeMap Tryd.prog
  go_enter Tryd.func20, Tryd.ntmps20
  go_wp2_with fail
  clear hmm
  generalize w.alloc (.map #[] 0) = w0 at *
  go_loopw [15] (fun i wr => ∃ k : Nat, k ≤ n ∧ i = .int .i64 (k : Int) ∧ KM wr w.heap.size (keysOf xs k) ∧ Below w.heap.size w wr ∧ ∀ j x, j < k → xs[j]? = some x → okAt xs j x = true) (fun i _ => n - (intOf i).toNat)
  case atStart => exact ⟨0, by omega, rfl, HK0.out, HB0.out, fun j x hj => absurd hj (by omega)⟩
  case round =>
    obtain ⟨k, hk, rfl, hg, hb, hok⟩ := hrel
    have HKW := Lib.hid hg
    have HBW := Lib.hid hb
    have HOK := Lib.hid hok
    have WK := Lib.hid (next_int k (by have := HNB.out; omega))
    clear hg hb hok HK0
    by_cases hkn : k = n
    · subst hkn
      have hki : ¬ (k : Int) < (k : Int) := by omega
      have HALL : Hid (∀ j x, xs[j]? = some x → okAt xs j x = true) := fun j x hx => HOK.out j x (by rw [← HN.out]; exact (List.getElem?_eq_some_iff.1 hx).1) hx
      rename World => wl
      clear HOK
      go_wp2_with fail
      go_loopw [52] (fun i wr => ∃ m : Nat, m ≤ k ∧ i = .int .i64 (m : Int) ∧ KM wr w.heap.size (keysOf xs k) ∧ Below w.heap.size w wr ∧ ∀ q ∈ xs.take m, ∀ p ∈ xs, under p.p q.p = false) (fun i _ => k - (intOf i).toNat)
      case atStart => exact ⟨0, by omega, rfl, HKW.out, HBW.out, fun q hq => absurd hq (by simp)⟩
      case round =>
        obtain ⟨m, hm, rfl, hg, hb, hno⟩ := hrel
        have HKR := Lib.hid hg
        have HBR := Lib.hid hb
        have HNO := Lib.hid hno
        have WM := Lib.hid (next_int m (by have := HNB.out; omega))
        clear hg hb hno
        by_cases hmk : m = k
        · subst hmk
          have HRM : Hid (rightM xs = true) := (rightM_iff xs).2 ⟨HALL.out, by
            have := HNO.out
            rw [List.take_of_length_le (by rw [HN.out]; omega)] at this
            exact this⟩
          clear hki
          have hki : ¬ (m : Int) < (m : Int) := by omega
          go_wp2_with fail
          go_ret
          exact ⟨by rw [HRM.out]; rfl, HBR.out⟩
        · have hml : m < k := by omega
          have hmi : (m : Int) < (k : Int) := by omega
          obtain ⟨b, off, x, rfl, hp, h20, hbl, hr⟩ := H.out.at (k := m) (by rw [HN.out]; exact hml)
          have HR := Lib.hid (range_below hr HBR.out hbl)
          have HP := Lib.hid hp
          have HOKX := Lib.hid (HALL.out m x hp)
          have HLEN : Hid (x.p.size ≤ 255) := by show _ ≤ _; rw [Lib.size_eq]; exact rightL_len (okAt_path HOKX.out)
          have HI := Lib.hid (file_info x h20)
          have HL := Lib.hid (file_infoL x h20)
          have HS : Hid ((fileA noFile).size = (fileA x).size) := by show _ = _; rw [fileA_size _ h20, fileA_size _ zeros20_len]
          have HZN : Hid ((wr.alloc (.cells (fileA noFile) 32)).heap[wr.heap.size]? = some (.cells (fileA noFile) 32 (0, 0))) := heap_alloc_new _ _
          have hb2 : Below wr.heap.size wr ((wr.alloc (.cells (fileA noFile) 32)).setRow wr.heap.size (fileA x)) := below_setRow ((Below.refl _ _).alloc (Nat.le_refl _) _) (Nat.le_refl _) _
          have HBWb := Lib.hid (HBR.out.trans (hb2.mono HBR.out.size))
          have HBX := Lib.hid (setRow_heap _ _ _ (fileA x) _ _ HZN.out)
          have HBL : Hid (wr.heap.size < ((wr.alloc (.cells (fileA noFile) 32)).setRow wr.heap.size (fileA x)).heap.size) := (Array.getElem?_eq_some_iff.1 HBX.out).1
          have HKb := Lib.hid (HKR.out.below hb2 HKR.out.lt)
          have hc1 := range_path (row_file HBX.out)
          clear hr hbl hp h20 hb2
          obtain ⟨cc, hcc, hcv⟩ := conv_bytes ((wr.alloc (.cells (fileA noFile) 32)).setRow wr.heap.size (fileA x)) x.p
          go_wp2_with (first
            | refine wpList_file rfl 32 _ rfl b (off + m * 22) rfl x _ HR.out Tryd.underlying32 rfl HL.out ?_
            | refine wpList_store_row rfl 32 _ _ rfl wr.heap.size (fileA x) rfl rfl 32 (fileA noFile) HZN.out HI.out HS.out (fileA_one _) ?_)
          have hcb : ∀ j, j < x.p.size → (Lib.bytesWorld ((wr.alloc (.cells (fileA noFile) 32)).setRow wr.heap.size (fileA x)) 5 x.p).cell? ⟨((wr.alloc (.cells (fileA noFile) 32)).setRow wr.heap.size (fileA x)).heap.size, j, none⟩ = some (.int .u8 (x.p.data.toList.getD j 0).toNat) := fun j hj => Lib.bytesWorld_cell _ 5 x.p j hj
          have hsz1 : ((wr.alloc (.cells (fileA noFile) 32)).setRow wr.heap.size (fileA x)).heap.size = wr.heap.size + 1 := by simp [World.setRow]
          clear HZN HR hcv hc1
          generalize (wr.alloc (.cells (fileA noFile) 32)).setRow wr.heap.size (fileA x) = wb at *
          rw [hsz1] at hcb
          clear hsz1
          generalize wr.heap.size = bx at *
          have hbb : Below wb.heap.size wb (Lib.bytesWorld wb 5 x.p) := Joins.below_bytesWorld _ wb 5 x.p (Nat.le_refl _)
          have HCB := Lib.hid hcb
          have HKC := Lib.hid (HKb.out.below hbb HKb.out.lt)
          have HBC := Lib.hid (HBWb.out.trans (hbb.mono HBWb.out.size))
          have HBXC := Lib.hid ((hbb.block bx HBL.out).trans HBX.out)
          clear hbb hcb HKb HBWb HBX HBL HKR HBR
          generalize Lib.bytesWorld wb 5 x.p = wc at *
          obtain ⟨sz, hsz⟩ : ∃ z, x.p.size = z := ⟨_, rfl⟩
          rw [hsz] at HCB HLEN hcc ⊢
          have HSZ := Lib.hid hsz
          clear hsz
          have hcp := range_path (row_file HBXC.out)
          go_loop [60] (fun i => ∃ j : Nat, j ≤ sz ∧ i = .int .i64 (j : Int) ∧ ∀ p ∈ xs, p.p.size < j → under p.p x.p = false) (fun i => sz - (intOf i).toNat)
          case atStart => exact ⟨0, by omega, rfl, fun p hp h => absurd h (by omega)⟩
          case round =>
            obtain ⟨j, hj, rfl, hun⟩ := hrel
            have HUN := Lib.hid hun
            have WJ := Lib.hid (next_int j (by have := HLEN.out; omega))
            clear hun
            by_cases hjs : j = sz
            · subst hjs
              have hji : ¬ (j : Int) < (j : Int) := by omega
              have HU2 : Hid (∀ q ∈ xs.take (m + 1), ∀ p ∈ xs, under p.p q.p = false) := fun q hq p hp => by
                rw [take_snoc HP.out] at hq
                rcases List.mem_append.1 hq with hq | hq
                · exact HNO.out q hq p hp
                · rw [List.mem_singleton.1 hq]
                  cases hu : under p.p x.p
                  · rfl
                  · have := ((under_iff p.p x.p).1 hu).1
                    rw [← hu]
                    exact HUN.out p hp (by rw [← HSZ.out]; exact this)
              have hml2 := hml
              go_wp2_with fail
              exact ⟨⟨m + 1, by omega, by rw [WM.out _ rfl], HKC.out, HBC.out, HU2.out⟩, by rw [WM.out _ rfl]; simp [intOf]; omega⟩
            · have hjl : j < sz := by omega
              have hji : (j : Int) < (sz : Int) := by omega
              have hcell := HCB.out j hjl
              have hgetx : x.p.data.toList[j]? = some (x.p.data.toList.getD j 0) := by
                rw [List.getD_eq_getElem?_getD, List.getElem?_eq_getElem (by rw [← Lib.size_eq, HSZ.out]; exact hjl)]
                rfl
              generalize x.p.data.toList.getD j 0 = bt at *
              have HGX := Lib.hid hgetx
              clear hgetx
              by_cases h47 : bt = 47
              · subst h47
                have HKS : Hid ((x.p.extract 0 j).size = j) := by
                  show _ = _
                  rw [Lib.size_eq, extract_list, List.length_take, ← Lib.size_eq, HSZ.out]
                  omega
                have hkl := key_str (x.p.extract 0 j) (by have := HKS.out; have := HLEN.out; omega)
                obtain ⟨v, o, hlk, ho⟩ := KeyMap.has HKC.out strKey Tryd.underlying76 (zero_int wc) str_inj (x.p.extract 0 j) hkl
                have hsl := slice_front x.p j (by rw [HSZ.out]; omega) _ rfl wc
                have HIN : Hid (o = true ↔ ∃ p ∈ xs, p.p = x.p.extract 0 j) := by
                  show _ ↔ _
                  rw [ho, ← keysOf_mem, HN.out]
                clear ho hkl
                cases o
                · have HNN : Hid (∀ p ∈ xs, p.p.size < j + 1 → under p.p x.p = false) := fun p hp hps => by
                    by_cases hpj : p.p.size = j
                    · cases hu : under p.p x.p
                      · rfl
                      · obtain ⟨h1, h2, h3⟩ := (under_iff p.p x.p).1 hu
                        rw [hpj] at h2
                        have := HIN.out.2 ⟨p, hp, h2.symm⟩
                        cases this
                    · exact HUN.out p hp (by omega)
                  have h47i : ((47 : UInt8).toNat : Int) = 47 := rfl
                  go_wp2_with (first
                    | refine wpList_lookup rfl 76 _ _ _ rfl (.map (some w.heap.size)) (.string (x.p.extract 0 j)) rfl rfl _ hlk ?_)
                  exact ⟨⟨j + 1, by omega, by rw [WJ.out _ rfl], HNN.out⟩, by rw [WJ.out _ rfl]; simp [intOf]; omega⟩
                · obtain ⟨p, hp, hpe⟩ := HIN.out.1 rfl
                  have HRM : Hid (rightM xs = false) := rightM_under hp (List.mem_of_getElem? HP.out) ((under_iff _ _).2 ⟨by rw [hpe, HKS.out, HSZ.out]; exact hjl, by rw [hpe, HKS.out], by rw [hpe, HKS.out]; exact HGX.out⟩)
                  have h47i : ((47 : UInt8).toNat : Int) = 47 := rfl
                  clear hp hpe
                  go_wp2_with (first
                    | refine wpList_lookup rfl 76 _ _ _ rfl (.map (some w.heap.size)) (.string (x.p.extract 0 j)) rfl rfl _ hlk ?_)
                  (try simp only [Exit.inBlock, Exit.then])
                  go_ret
                  exact ⟨by rw [HRM.out]; rfl, HBC.out⟩
              · have HNN : Hid (∀ p ∈ xs, p.p.size < j + 1 → under p.p x.p = false) := fun p hp hps => by
                  by_cases hpj : p.p.size = j
                  · cases hu : under p.p x.p
                    · rfl
                    · obtain ⟨h1, h2, h3⟩ := (under_iff p.p x.p).1 hu
                      rw [hpj, HGX.out] at h3
                      injection h3 with h3
                      exact absurd h3 h47
                  · exact HUN.out p hp (by omega)
                have h47i : ¬ ((bt.toNat : Nat) : Int) = 47 := fun e => h47 (by
                  have : bt.toNat = 47 := by omega
                  rw [← UInt8.toNat_inj, this]; rfl)
                clear h47
                generalize ((bt.toNat : Nat) : Int) = bi at *
                go_wp2_with fail
                exact ⟨⟨j + 1, by omega, by rw [WJ.out _ rfl], HNN.out⟩, by rw [WJ.out _ rfl]; simp [intOf]; omega⟩
    · have hkl : k < n := by omega
      have hki : (k : Int) < (n : Int) := by omega
      obtain ⟨b, off, x, rfl, hp, h20, hbl, hr⟩ := H.out.at (k := k) (by rw [HN.out]; exact hkl)
      have HR := Lib.hid (range_below hr HBW.out hbl)
      have HP := Lib.hid hp
      have H20 := Lib.hid h20
      have HKN := Lib.hid hkl
      have HI := Lib.hid (file_info x h20)
      have HL := Lib.hid (file_infoL x h20)
      have HS : Hid ((fileA noFile).size = (fileA x).size) := by show _ = _; rw [fileA_size _ h20, fileA_size _ zeros20_len]
      have HZN : Hid ((wr.alloc (.cells (fileA noFile) 32)).heap[wr.heap.size]? = some (.cells (fileA noFile) 32 (0, 0))) := heap_alloc_new _ _
      have hb2 : Below wr.heap.size wr ((wr.alloc (.cells (fileA noFile) 32)).setRow wr.heap.size (fileA x)) := below_setRow ((Below.refl _ _).alloc (Nat.le_refl _) _) (Nat.le_refl _) _
      have HBWb := Lib.hid (HBW.out.trans (hb2.mono HBW.out.size))
      have HBX := Lib.hid (setRow_heap _ _ _ (fileA x) _ _ HZN.out)
      have HBL : Hid (wr.heap.size < ((wr.alloc (.cells (fileA noFile) 32)).setRow wr.heap.size (fileA x)).heap.size) := (Array.getElem?_eq_some_iff.1 HBX.out).1
      have HKb := Lib.hid (HKW.out.below hb2 HKW.out.lt)
      have HYK0 : Hid (∀ j y, xs[j]? = some y → ∀ W, Below ((wr.alloc (.cells (fileA noFile) 32)).setRow wr.heap.size (fileA x)).heap.size ((wr.alloc (.cells (fileA noFile) 32)).setRow wr.heap.size (fileA x)) W → W.rangeAt b (off + j * 22) (fileL y)) := fun j y hy W hW => by
        rcases H.out.rows with h0 | ⟨b3, off3, e3, hl3, hc3⟩
        · rw [HN.out] at h0; omega
        · injection e3 with e3
          injection e3 with e4 e5 _
          subst e4 e5
          exact range_below (range_below (hc3 j y hy) HBWb.out hl3) hW (Nat.lt_of_lt_of_le hl3 HBWb.out.size)
      clear hr hbl hp h20 hb2 hkl
      go_wp2_with (first
        | refine wpList_file rfl 32 _ rfl b (off + k * 22) rfl x _ HR.out Tryd.underlying32 rfl HL.out ?_
        | refine wpList_store_row rfl 32 _ _ rfl wr.heap.size (fileA x) rfl rfl 32 (fileA noFile) HZN.out HI.out HS.out (fileA_one _) ?_)
      clear HZN HR HKW HBW
      generalize (wr.alloc (.cells (fileA noFile) 32)).setRow wr.heap.size (fileA x) = wb at *
      generalize wr.heap.size = bx at *
      obtain ⟨rl, hrl⟩ : ∃ r, rightL x.p.data.toList = r := ⟨_, rfl⟩
      have HRL := Lib.hid hrl
      obtain ⟨fo, hfo⟩ : ∃ r, flagOk x.f = r := ⟨_, rfl⟩
      have HFO := Lib.hid hfo
      clear hrl hfo
      cases rl
      · have HBAD : Hid (okAt xs k x = false) := by show _ = _; unfold okAt; rw [HRL.out]; rfl
        refine wp_region_noPanic ?_
        refine wp_region_held_drew (S := fun W => W.heap[bx]? = some (.cells (fileA x) 32 (0, 0))) (by kernel_rfl) ?_ (fun hHeld => ?_)
        · exact HBX.out
        refine wpAnyH_take (i := 0) (v := ?_) (by simp only [List.getElem?_toArray, List.getElem?_cons_zero]; rfl) (by kernel_rfl) (by kernel_rfl) (by kernel_rfl) (fun _ _ _ h => h) (Or.inl ⟨by rfl, ?_⟩) (by assumption) ?_
        rotate_left
        · intro W hSW
          go_simp
          try with_reducible rfl
        try simp only [Act.put, List.setIfInBounds_toArray, List.set_cons_zero, List.set_cons_succ]
        refine wpAnyH_take (i := 1) (by simp only [List.getElem?_toArray, List.getElem?_cons_succ, List.getElem?_cons_zero]; rfl) (by kernel_rfl) (by kernel_rfl) (by kernel_rfl) (fun _ _ _ h => h) (yieldsIf_load_str (by rfl) 9 _ rfl bx 0 rfl x.p (fun W hSW => range_path (row_file hSW)) Tryd.underlying9) (by assumption) ?_
        try simp only [Act.put, List.setIfInBounds_toArray, List.set_cons_zero, List.set_cons_succ]
        refine wpAnyH_ready (rs := [2]) (by kernel_rfl) (by simp) ?_
        refine AllReadyH.cons (by simp only [List.getElem?_toArray, List.getElem?_cons_succ, List.getElem?_cons_zero]; rfl) (fun K hK => ?_) AllReadyH.nil
        go_simp
        refine (right_any x.p _ (HE.out.below HBWb.out.drew)).mono ?_
        rintro e v1 ⟨rfl, hb⟩
        rw [HRL.out]
        have hb1 : Below wb.heap.size wb v1 := (Below.refl _ _).drew.trans hb
        have HB1 := Lib.hid hb1
        have HBX1 := Lib.hid ((hb1.block bx HBL.out).trans HBX.out)
        clear hb hb1
        go_wp2_with fail
        refine hK.out _ _ (HBX1.out) (fun hHeld2 => ?_)
        clear hK K hHeld
        have hHeld := hHeld2
        clear hHeld2
        try simp only [Act.put, List.setIfInBounds_toArray, List.set_cons_zero, List.set_cons_succ]
        refine wpAnyH_take (i := 3) (v := ?_) (by simp only [List.getElem?_toArray, List.getElem?_cons_succ, List.getElem?_cons_zero]; rfl) (by kernel_rfl) (by kernel_rfl) (by kernel_rfl) (fun _ _ _ h => h) (Or.inl ⟨by rfl, ?_⟩) (by assumption) ?_
        rotate_left
        · intro W hSW
          go_simp
          try with_reducible rfl
        try simp only [Act.put, List.setIfInBounds_toArray, List.set_cons_zero, List.set_cons_succ]
        refine wpAnyH_take (i := 4) (v := ?_) (by simp only [List.getElem?_toArray, List.getElem?_cons_succ, List.getElem?_cons_zero]; rfl) (by kernel_rfl) (by kernel_rfl) (by kernel_rfl) (fun _ _ _ h => h) (Or.inl ⟨by rfl, ?_⟩) (by assumption) ?_
        rotate_left
        · intro W hSW
          go_simp
          try with_reducible rfl
        try simp only [Act.put, List.setIfInBounds_toArray, List.set_cons_zero, List.set_cons_succ]
        refine wpAnyH_take (i := 5) (v := undef) (by simp only [List.getElem?_toArray, List.getElem?_cons_succ, List.getElem?_cons_zero]; rfl) (by kernel_rfl) (by kernel_rfl) (by kernel_rfl) (fun _ _ _ h => h) (Or.inr ⟨by rfl, rfl⟩) (by assumption) ?_
        try simp only [Act.put, List.setIfInBounds_toArray, List.set_cons_zero, List.set_cons_succ]
        refine wpAnyH_take (i := 6) (v := undef) (by simp only [List.getElem?_toArray, List.getElem?_cons_succ, List.getElem?_cons_zero]; rfl) (by kernel_rfl) (by kernel_rfl) (by kernel_rfl) (fun _ _ _ h => h) (Or.inr ⟨by rfl, rfl⟩) (by assumption) ?_
        try simp only [Act.put, List.setIfInBounds_toArray, List.set_cons_zero, List.set_cons_succ]
        refine wpAnyH_take (i := 7) (v := undef) (by simp only [List.getElem?_toArray, List.getElem?_cons_succ, List.getElem?_cons_zero]; rfl) (by kernel_rfl) (by kernel_rfl) (by kernel_rfl) (fun _ _ _ h => h) (Or.inr ⟨by rfl, rfl⟩) (by assumption) ?_
        try simp only [Act.put, List.setIfInBounds_toArray, List.set_cons_zero, List.set_cons_succ]
        refine wpAnyH_take (i := 8) (v := undef) (by simp only [List.getElem?_toArray, List.getElem?_cons_succ, List.getElem?_cons_zero]; rfl) (by kernel_rfl) (by kernel_rfl) (by kernel_rfl) (fun _ _ _ h => h) (Or.inr ⟨by rfl, rfl⟩) (by assumption) ?_
        try simp only [Act.put, List.setIfInBounds_toArray, List.set_cons_zero, List.set_cons_succ]
        refine wpAnyH_take (i := 9) (v := ?_) (by simp only [List.getElem?_toArray, List.getElem?_cons_succ, List.getElem?_cons_zero]; rfl) (by kernel_rfl) (by kernel_rfl) (by kernel_rfl) (fun _ _ _ h => h) (Or.inl ⟨by rfl, ?_⟩) (by assumption) ?_
        rotate_left
        · intro W hSW
          go_simp
          try with_reducible rfl
        try simp only [Act.put, List.setIfInBounds_toArray, List.set_cons_zero, List.set_cons_succ]
        refine wpAnyH_take (i := 10) (v := ?_) (by simp only [List.getElem?_toArray, List.getElem?_cons_succ, List.getElem?_cons_zero]; rfl) (by kernel_rfl) (by kernel_rfl) (by kernel_rfl) (fun _ _ _ h => h) (Or.inl ⟨by rfl, ?_⟩) (by assumption) ?_
        rotate_left
        · intro W hSW
          go_simp
          try with_reducible rfl
        try simp only [Act.put, List.setIfInBounds_toArray, List.set_cons_zero, List.set_cons_succ]
        refine wpAnyH_take (i := 11) (v := undef) (by simp only [List.getElem?_toArray, List.getElem?_cons_succ, List.getElem?_cons_zero]; rfl) (by kernel_rfl) (by kernel_rfl) (by kernel_rfl) (fun _ _ _ h => h) (Or.inr ⟨by rfl, rfl⟩) (by assumption) ?_
        try simp only [Act.put, List.setIfInBounds_toArray, List.set_cons_zero, List.set_cons_succ]
        refine wpAnyH_take (i := 12) (v := undef) (by simp only [List.getElem?_toArray, List.getElem?_cons_succ, List.getElem?_cons_zero]; rfl) (by kernel_rfl) (by kernel_rfl) (by kernel_rfl) (fun _ _ _ h => h) (Or.inr ⟨by rfl, rfl⟩) (by assumption) ?_
        try simp only [Act.put, List.setIfInBounds_toArray, List.set_cons_zero, List.set_cons_succ]
        refine wpAnyH_take (i := 13) (v := undef) (by simp only [List.getElem?_toArray, List.getElem?_cons_succ, List.getElem?_cons_zero]; rfl) (by kernel_rfl) (by kernel_rfl) (by kernel_rfl) (fun _ _ _ h => h) (Or.inr ⟨by rfl, rfl⟩) (by assumption) ?_
        try simp only [Act.put, List.setIfInBounds_toArray, List.set_cons_zero, List.set_cons_succ]
        refine wpAnyH_take (i := 14) (v := undef) (by simp only [List.getElem?_toArray, List.getElem?_cons_succ, List.getElem?_cons_zero]; rfl) (by kernel_rfl) (by kernel_rfl) (by kernel_rfl) (fun _ _ _ h => h) (Or.inr ⟨by rfl, rfl⟩) (by assumption) ?_
        try simp only [Act.put, List.setIfInBounds_toArray, List.set_cons_zero, List.set_cons_succ]
        refine wpAnyH_take (i := 15) (v := undef) (by simp only [List.getElem?_toArray, List.getElem?_cons_succ, List.getElem?_cons_zero]; rfl) (by kernel_rfl) (by kernel_rfl) (by kernel_rfl) (fun _ _ _ h => h) (Or.inr ⟨by rfl, rfl⟩) (by assumption) ?_
        try simp only [Act.put, List.setIfInBounds_toArray, List.set_cons_zero, List.set_cons_succ]
        refine wpAnyH_take (i := 16) (v := undef) (by simp only [List.getElem?_toArray, List.getElem?_cons_succ, List.getElem?_cons_zero]; rfl) (by kernel_rfl) (by kernel_rfl) (by kernel_rfl) (fun _ _ _ h => h) (Or.inr ⟨by rfl, rfl⟩) (by assumption) ?_
        try simp only [Act.put, List.setIfInBounds_toArray, List.set_cons_zero, List.set_cons_succ]
        refine wpAnyH_take (i := 17) (v := undef) (by simp only [List.getElem?_toArray, List.getElem?_cons_succ, List.getElem?_cons_zero]; rfl) (by kernel_rfl) (by kernel_rfl) (by kernel_rfl) (fun _ _ _ h => h) (Or.inr ⟨by rfl, rfl⟩) (by assumption) ?_
        try simp only [Act.put, List.setIfInBounds_toArray, List.set_cons_zero, List.set_cons_succ]
        refine wpAnyH_take (i := 18) (v := undef) (by simp only [List.getElem?_toArray, List.getElem?_cons_succ, List.getElem?_cons_zero]; rfl) (by kernel_rfl) (by kernel_rfl) (by kernel_rfl) (fun _ _ _ h => h) (Or.inr ⟨by rfl, rfl⟩) (by assumption) ?_
        try simp only [Act.put, List.setIfInBounds_toArray, List.set_cons_zero, List.set_cons_succ]
        refine wpAnyH_take (i := 19) (v := undef) (by simp only [List.getElem?_toArray, List.getElem?_cons_succ, List.getElem?_cons_zero]; rfl) (by kernel_rfl) (by kernel_rfl) (by kernel_rfl) (fun _ _ _ h => h) (Or.inr ⟨by rfl, rfl⟩) (by assumption) ?_
        try simp only [Act.put, List.setIfInBounds_toArray, List.set_cons_zero, List.set_cons_succ]
        refine wpAnyH_take (i := 20) (v := undef) (by simp only [List.getElem?_toArray, List.getElem?_cons_succ, List.getElem?_cons_zero]; rfl) (by kernel_rfl) (by kernel_rfl) (by kernel_rfl) (fun _ _ _ h => h) (Or.inr ⟨by rfl, rfl⟩) (by assumption) ?_
        try simp only [Act.put, List.setIfInBounds_toArray, List.set_cons_zero, List.set_cons_succ]
        refine wpAnyH_take (i := 21) (v := undef) (by simp only [List.getElem?_toArray, List.getElem?_cons_succ, List.getElem?_cons_zero]; rfl) (by kernel_rfl) (by kernel_rfl) (by kernel_rfl) (fun _ _ _ h => h) (Or.inr ⟨by rfl, rfl⟩) (by assumption) ?_
        try simp only [Act.put, List.setIfInBounds_toArray, List.set_cons_zero, List.set_cons_succ]
        refine wpAnyH_take (i := 22) (v := undef) (by simp only [List.getElem?_toArray, List.getElem?_cons_succ, List.getElem?_cons_zero]; rfl) (by kernel_rfl) (by kernel_rfl) (by kernel_rfl) (fun _ _ _ h => h) (Or.inr ⟨by rfl, rfl⟩) (by assumption) ?_
        try simp only [Act.put, List.setIfInBounds_toArray, List.set_cons_zero, List.set_cons_succ]
        refine wpAnyH_take (i := 23) (v := undef) (by simp only [List.getElem?_toArray, List.getElem?_cons_succ, List.getElem?_cons_zero]; rfl) (by kernel_rfl) (by kernel_rfl) (by kernel_rfl) (fun _ _ _ h => h) (Or.inr ⟨by rfl, rfl⟩) (by assumption) ?_
        try simp only [Act.put, List.setIfInBounds_toArray, List.set_cons_zero, List.set_cons_succ]
        refine wpAnyH_take (i := 24) (v := ?_) (by simp only [List.getElem?_toArray, List.getElem?_cons_succ, List.getElem?_cons_zero]; rfl) (by kernel_rfl) (by kernel_rfl) (by kernel_rfl) (fun _ _ _ h => h) (Or.inl ⟨by rfl, ?_⟩) (by assumption) ?_
        rotate_left
        · intro W hSW
          go_simp
          try with_reducible rfl
        try simp only [Act.put, List.setIfInBounds_toArray, List.set_cons_zero, List.set_cons_succ]
        refine wpAnyH_done (by kernel_rfl) ?_ _
        refine NoPanic.normal ?_
        go_wp2_with fail
        (try simp only [Exit.inBlock, Exit.then])
        go_ret
        exact ⟨by rw [rightM_bad HP.out HBAD.out]; rfl, HBWb.out.trans (HB1.out.mono HBWb.out.size)⟩
      · cases fo
        · have HBAD : Hid (okAt xs k x = false) := by show _ = _; unfold okAt; rw [HRL.out, HFO.out]; rfl
          refine wp_region_noPanic ?_
          refine wp_region_held_drew (S := fun W => W.heap[bx]? = some (.cells (fileA x) 32 (0, 0))) (by kernel_rfl) ?_ (fun hHeld => ?_)
          · exact HBX.out
          refine wpAnyH_take (i := 0) (v := ?_) (by simp only [List.getElem?_toArray, List.getElem?_cons_zero]; rfl) (by kernel_rfl) (by kernel_rfl) (by kernel_rfl) (fun _ _ _ h => h) (Or.inl ⟨by rfl, ?_⟩) (by assumption) ?_
          rotate_left
          · intro W hSW
            go_simp
            try with_reducible rfl
          try simp only [Act.put, List.setIfInBounds_toArray, List.set_cons_zero, List.set_cons_succ]
          refine wpAnyH_take (i := 1) (by simp only [List.getElem?_toArray, List.getElem?_cons_succ, List.getElem?_cons_zero]; rfl) (by kernel_rfl) (by kernel_rfl) (by kernel_rfl) (fun _ _ _ h => h) (yieldsIf_load_str (by rfl) 9 _ rfl bx 0 rfl x.p (fun W hSW => range_path (row_file hSW)) Tryd.underlying9) (by assumption) ?_
          try simp only [Act.put, List.setIfInBounds_toArray, List.set_cons_zero, List.set_cons_succ]
          refine wpAnyH_ready (rs := [2]) (by kernel_rfl) (by simp) ?_
          refine AllReadyH.cons (by simp only [List.getElem?_toArray, List.getElem?_cons_succ, List.getElem?_cons_zero]; rfl) (fun K hK => ?_) AllReadyH.nil
          go_simp
          refine (right_any x.p _ (HE.out.below HBWb.out.drew)).mono ?_
          rintro e v1 ⟨rfl, hb⟩
          rw [HRL.out]
          have hb1 : Below wb.heap.size wb v1 := (Below.refl _ _).drew.trans hb
          have HB1 := Lib.hid hb1
          have HBX1 := Lib.hid ((hb1.block bx HBL.out).trans HBX.out)
          clear hb hb1
          go_wp2_with fail
          refine hK.out _ _ (HBX1.out) (fun hHeld2 => ?_)
          clear hK K hHeld
          have hHeld := hHeld2
          clear hHeld2
          try simp only [Act.put, List.setIfInBounds_toArray, List.set_cons_zero, List.set_cons_succ]
          refine wpAnyH_take (i := 3) (v := ?_) (by simp only [List.getElem?_toArray, List.getElem?_cons_succ, List.getElem?_cons_zero]; rfl) (by kernel_rfl) (by kernel_rfl) (by kernel_rfl) (fun _ _ _ h => h) (Or.inl ⟨by rfl, ?_⟩) (by assumption) ?_
          rotate_left
          · intro W hSW
            go_simp
            try with_reducible rfl
          try simp only [Act.put, List.setIfInBounds_toArray, List.set_cons_zero, List.set_cons_succ]
          refine wpAnyH_take (i := 4) (v := ?_) (by simp only [List.getElem?_toArray, List.getElem?_cons_succ, List.getElem?_cons_zero]; rfl) (by kernel_rfl) (by kernel_rfl) (by kernel_rfl) (fun _ _ _ h => h) (Or.inl ⟨by rfl, ?_⟩) (by assumption) ?_
          rotate_left
          · intro W hSW
            go_simp
            try with_reducible rfl
          try simp only [Act.put, List.setIfInBounds_toArray, List.set_cons_zero, List.set_cons_succ]
          refine wpAnyH_take (i := 5) (v := ?_) (by simp only [List.getElem?_toArray, List.getElem?_cons_succ, List.getElem?_cons_zero]; rfl) (by kernel_rfl) (by kernel_rfl) (by kernel_rfl) (fun _ _ _ h => h) (Or.inl ⟨by rfl, ?_⟩) (by assumption) ?_
          rotate_left
          · intro W hSW
            go_simp
            try with_reducible rfl
          try simp only [Act.put, List.setIfInBounds_toArray, List.set_cons_zero, List.set_cons_succ]
          refine wpAnyH_take (i := 6) (by simp only [List.getElem?_toArray, List.getElem?_cons_succ, List.getElem?_cons_zero]; rfl) (by kernel_rfl) (by kernel_rfl) (by kernel_rfl) (fun _ _ _ h => h) (yieldsIf_load_str (by rfl) 9 _ rfl bx 21 rfl x.f (fun W hSW => range_flag (row_file hSW) H20.out) Tryd.underlying9) (by assumption) ?_
          try simp only [Act.put, List.setIfInBounds_toArray, List.set_cons_zero, List.set_cons_succ]
          refine wpAnyH_ready (rs := [7]) (by kernel_rfl) (by simp) ?_
          refine AllReadyH.cons (by simp only [List.getElem?_toArray, List.getElem?_cons_succ, List.getElem?_cons_zero]; rfl) (fun K hK => ?_) AllReadyH.nil
          go_simp
          refine (flag_any x.f _).mono ?_
          rintro e v2 ⟨rfl, rfl⟩
          rename World => v1
          rw [HFO.out]
          go_wp2_with fail
          refine hK.out _ _ (HBX1.out) (fun hHeld2 => ?_)
          clear hK K hHeld
          have hHeld := hHeld2
          clear hHeld2
          try simp only [Act.put, List.setIfInBounds_toArray, List.set_cons_zero, List.set_cons_succ]
          refine wpAnyH_take (i := 8) (v := ?_) (by simp only [List.getElem?_toArray, List.getElem?_cons_succ, List.getElem?_cons_zero]; rfl) (by kernel_rfl) (by kernel_rfl) (by kernel_rfl) (fun _ _ _ h => h) (Or.inl ⟨by rfl, ?_⟩) (by assumption) ?_
          rotate_left
          · intro W hSW
            go_simp
            try with_reducible rfl
          try simp only [Act.put, List.setIfInBounds_toArray, List.set_cons_zero, List.set_cons_succ]
          refine wpAnyH_take (i := 9) (v := ?_) (by simp only [List.getElem?_toArray, List.getElem?_cons_succ, List.getElem?_cons_zero]; rfl) (by kernel_rfl) (by kernel_rfl) (by kernel_rfl) (fun _ _ _ h => h) (Or.inl ⟨by rfl, ?_⟩) (by assumption) ?_
          rotate_left
          · intro W hSW
            go_simp
            try with_reducible rfl
          try simp only [Act.put, List.setIfInBounds_toArray, List.set_cons_zero, List.set_cons_succ]
          refine wpAnyH_take (i := 10) (v := ?_) (by simp only [List.getElem?_toArray, List.getElem?_cons_succ, List.getElem?_cons_zero]; rfl) (by kernel_rfl) (by kernel_rfl) (by kernel_rfl) (fun _ _ _ h => h) (Or.inl ⟨by rfl, ?_⟩) (by assumption) ?_
          rotate_left
          · intro W hSW
            go_simp
            try with_reducible rfl
          try simp only [Act.put, List.setIfInBounds_toArray, List.set_cons_zero, List.set_cons_succ]
          refine wpAnyH_take (i := 11) (v := undef) (by simp only [List.getElem?_toArray, List.getElem?_cons_succ, List.getElem?_cons_zero]; rfl) (by kernel_rfl) (by kernel_rfl) (by kernel_rfl) (fun _ _ _ h => h) (Or.inr ⟨by rfl, rfl⟩) (by assumption) ?_
          try simp only [Act.put, List.setIfInBounds_toArray, List.set_cons_zero, List.set_cons_succ]
          refine wpAnyH_take (i := 12) (v := undef) (by simp only [List.getElem?_toArray, List.getElem?_cons_succ, List.getElem?_cons_zero]; rfl) (by kernel_rfl) (by kernel_rfl) (by kernel_rfl) (fun _ _ _ h => h) (Or.inr ⟨by rfl, rfl⟩) (by assumption) ?_
          try simp only [Act.put, List.setIfInBounds_toArray, List.set_cons_zero, List.set_cons_succ]
          refine wpAnyH_take (i := 13) (v := undef) (by simp only [List.getElem?_toArray, List.getElem?_cons_succ, List.getElem?_cons_zero]; rfl) (by kernel_rfl) (by kernel_rfl) (by kernel_rfl) (fun _ _ _ h => h) (Or.inr ⟨by rfl, rfl⟩) (by assumption) ?_
          try simp only [Act.put, List.setIfInBounds_toArray, List.set_cons_zero, List.set_cons_succ]
          refine wpAnyH_take (i := 14) (v := undef) (by simp only [List.getElem?_toArray, List.getElem?_cons_succ, List.getElem?_cons_zero]; rfl) (by kernel_rfl) (by kernel_rfl) (by kernel_rfl) (fun _ _ _ h => h) (Or.inr ⟨by rfl, rfl⟩) (by assumption) ?_
          try simp only [Act.put, List.setIfInBounds_toArray, List.set_cons_zero, List.set_cons_succ]
          refine wpAnyH_take (i := 15) (v := undef) (by simp only [List.getElem?_toArray, List.getElem?_cons_succ, List.getElem?_cons_zero]; rfl) (by kernel_rfl) (by kernel_rfl) (by kernel_rfl) (fun _ _ _ h => h) (Or.inr ⟨by rfl, rfl⟩) (by assumption) ?_
          try simp only [Act.put, List.setIfInBounds_toArray, List.set_cons_zero, List.set_cons_succ]
          refine wpAnyH_take (i := 16) (v := undef) (by simp only [List.getElem?_toArray, List.getElem?_cons_succ, List.getElem?_cons_zero]; rfl) (by kernel_rfl) (by kernel_rfl) (by kernel_rfl) (fun _ _ _ h => h) (Or.inr ⟨by rfl, rfl⟩) (by assumption) ?_
          try simp only [Act.put, List.setIfInBounds_toArray, List.set_cons_zero, List.set_cons_succ]
          refine wpAnyH_take (i := 17) (v := undef) (by simp only [List.getElem?_toArray, List.getElem?_cons_succ, List.getElem?_cons_zero]; rfl) (by kernel_rfl) (by kernel_rfl) (by kernel_rfl) (fun _ _ _ h => h) (Or.inr ⟨by rfl, rfl⟩) (by assumption) ?_
          try simp only [Act.put, List.setIfInBounds_toArray, List.set_cons_zero, List.set_cons_succ]
          refine wpAnyH_take (i := 18) (v := undef) (by simp only [List.getElem?_toArray, List.getElem?_cons_succ, List.getElem?_cons_zero]; rfl) (by kernel_rfl) (by kernel_rfl) (by kernel_rfl) (fun _ _ _ h => h) (Or.inr ⟨by rfl, rfl⟩) (by assumption) ?_
          try simp only [Act.put, List.setIfInBounds_toArray, List.set_cons_zero, List.set_cons_succ]
          refine wpAnyH_take (i := 19) (v := undef) (by simp only [List.getElem?_toArray, List.getElem?_cons_succ, List.getElem?_cons_zero]; rfl) (by kernel_rfl) (by kernel_rfl) (by kernel_rfl) (fun _ _ _ h => h) (Or.inr ⟨by rfl, rfl⟩) (by assumption) ?_
          try simp only [Act.put, List.setIfInBounds_toArray, List.set_cons_zero, List.set_cons_succ]
          refine wpAnyH_take (i := 20) (v := undef) (by simp only [List.getElem?_toArray, List.getElem?_cons_succ, List.getElem?_cons_zero]; rfl) (by kernel_rfl) (by kernel_rfl) (by kernel_rfl) (fun _ _ _ h => h) (Or.inr ⟨by rfl, rfl⟩) (by assumption) ?_
          try simp only [Act.put, List.setIfInBounds_toArray, List.set_cons_zero, List.set_cons_succ]
          refine wpAnyH_take (i := 21) (v := undef) (by simp only [List.getElem?_toArray, List.getElem?_cons_succ, List.getElem?_cons_zero]; rfl) (by kernel_rfl) (by kernel_rfl) (by kernel_rfl) (fun _ _ _ h => h) (Or.inr ⟨by rfl, rfl⟩) (by assumption) ?_
          try simp only [Act.put, List.setIfInBounds_toArray, List.set_cons_zero, List.set_cons_succ]
          refine wpAnyH_take (i := 22) (v := undef) (by simp only [List.getElem?_toArray, List.getElem?_cons_succ, List.getElem?_cons_zero]; rfl) (by kernel_rfl) (by kernel_rfl) (by kernel_rfl) (fun _ _ _ h => h) (Or.inr ⟨by rfl, rfl⟩) (by assumption) ?_
          try simp only [Act.put, List.setIfInBounds_toArray, List.set_cons_zero, List.set_cons_succ]
          refine wpAnyH_take (i := 23) (v := undef) (by simp only [List.getElem?_toArray, List.getElem?_cons_succ, List.getElem?_cons_zero]; rfl) (by kernel_rfl) (by kernel_rfl) (by kernel_rfl) (fun _ _ _ h => h) (Or.inr ⟨by rfl, rfl⟩) (by assumption) ?_
          try simp only [Act.put, List.setIfInBounds_toArray, List.set_cons_zero, List.set_cons_succ]
          refine wpAnyH_take (i := 24) (v := ?_) (by simp only [List.getElem?_toArray, List.getElem?_cons_succ, List.getElem?_cons_zero]; rfl) (by kernel_rfl) (by kernel_rfl) (by kernel_rfl) (fun _ _ _ h => h) (Or.inl ⟨by rfl, ?_⟩) (by assumption) ?_
          rotate_left
          · intro W hSW
            go_simp
            try with_reducible rfl
          try simp only [Act.put, List.setIfInBounds_toArray, List.set_cons_zero, List.set_cons_succ]
          refine wpAnyH_done (by kernel_rfl) ?_ _
          refine NoPanic.normal ?_
          go_wp2_with fail
          (try simp only [Exit.inBlock, Exit.then])
          go_ret
          exact ⟨by rw [rightM_bad HP.out HBAD.out]; rfl, HBWb.out.trans (HB1.out.mono HBWb.out.size)⟩
        · have HKL : Hid (keyOf Tryd.prog 9 (.string x.p) = some (.string x.p.data.toList)) := key_str x.p (by rw [Lib.size_eq]; exact Nat.le_trans (rightL_len HRL.out) (by omega))
          by_cases hk0 : k = 0
          · have HGOOD : Hid (okAt xs k x = true) := by show _ = _; rw [hk0]; unfold okAt; rw [HRL.out, HFO.out]; rfl
            have hgt : ¬ (0 : Int) < (k : Int) := by omega
            have hgt2 : ¬ 0 < k := by omega
            clear hk0
            refine wp_region_noPanic ?_
            refine wp_region_held_drew (S := fun W => W.heap[bx]? = some (.cells (fileA x) 32 (0, 0))) (by kernel_rfl) ?_ (fun hHeld => ?_)
            · exact HBX.out
            refine wpAnyH_take (i := 0) (v := ?_) (by simp only [List.getElem?_toArray, List.getElem?_cons_zero]; rfl) (by kernel_rfl) (by kernel_rfl) (by kernel_rfl) (fun _ _ _ h => h) (Or.inl ⟨by rfl, ?_⟩) (by assumption) ?_
            rotate_left
            · intro W hSW
              go_simp
              try with_reducible rfl
            try simp only [Act.put, List.setIfInBounds_toArray, List.set_cons_zero, List.set_cons_succ]
            refine wpAnyH_take (i := 1) (by simp only [List.getElem?_toArray, List.getElem?_cons_succ, List.getElem?_cons_zero]; rfl) (by kernel_rfl) (by kernel_rfl) (by kernel_rfl) (fun _ _ _ h => h) (yieldsIf_load_str (by rfl) 9 _ rfl bx 0 rfl x.p (fun W hSW => range_path (row_file hSW)) Tryd.underlying9) (by assumption) ?_
            try simp only [Act.put, List.setIfInBounds_toArray, List.set_cons_zero, List.set_cons_succ]
            refine wpAnyH_ready (rs := [2]) (by kernel_rfl) (by simp) ?_
            refine AllReadyH.cons (by simp only [List.getElem?_toArray, List.getElem?_cons_succ, List.getElem?_cons_zero]; rfl) (fun K hK => ?_) AllReadyH.nil
            go_simp
            refine (right_any x.p _ (HE.out.below HBWb.out.drew)).mono ?_
            rintro e v1 ⟨rfl, hb⟩
            rw [HRL.out]
            have hb1 : Below wb.heap.size wb v1 := (Below.refl _ _).drew.trans hb
            have HB1 := Lib.hid hb1
            have HBX1 := Lib.hid ((hb1.block bx HBL.out).trans HBX.out)
            clear hb hb1
            go_wp2_with fail
            refine hK.out _ _ (HBX1.out) (fun hHeld2 => ?_)
            clear hK K hHeld
            have hHeld := hHeld2
            clear hHeld2
            try simp only [Act.put, List.setIfInBounds_toArray, List.set_cons_zero, List.set_cons_succ]
            refine wpAnyH_take (i := 3) (v := ?_) (by simp only [List.getElem?_toArray, List.getElem?_cons_succ, List.getElem?_cons_zero]; rfl) (by kernel_rfl) (by kernel_rfl) (by kernel_rfl) (fun _ _ _ h => h) (Or.inl ⟨by rfl, ?_⟩) (by assumption) ?_
            rotate_left
            · intro W hSW
              go_simp
              try with_reducible rfl
            try simp only [Act.put, List.setIfInBounds_toArray, List.set_cons_zero, List.set_cons_succ]
            refine wpAnyH_take (i := 4) (v := ?_) (by simp only [List.getElem?_toArray, List.getElem?_cons_succ, List.getElem?_cons_zero]; rfl) (by kernel_rfl) (by kernel_rfl) (by kernel_rfl) (fun _ _ _ h => h) (Or.inl ⟨by rfl, ?_⟩) (by assumption) ?_
            rotate_left
            · intro W hSW
              go_simp
              try with_reducible rfl
            try simp only [Act.put, List.setIfInBounds_toArray, List.set_cons_zero, List.set_cons_succ]
            refine wpAnyH_take (i := 5) (v := ?_) (by simp only [List.getElem?_toArray, List.getElem?_cons_succ, List.getElem?_cons_zero]; rfl) (by kernel_rfl) (by kernel_rfl) (by kernel_rfl) (fun _ _ _ h => h) (Or.inl ⟨by rfl, ?_⟩) (by assumption) ?_
            rotate_left
            · intro W hSW
              go_simp
              try with_reducible rfl
            try simp only [Act.put, List.setIfInBounds_toArray, List.set_cons_zero, List.set_cons_succ]
            refine wpAnyH_take (i := 6) (by simp only [List.getElem?_toArray, List.getElem?_cons_succ, List.getElem?_cons_zero]; rfl) (by kernel_rfl) (by kernel_rfl) (by kernel_rfl) (fun _ _ _ h => h) (yieldsIf_load_str (by rfl) 9 _ rfl bx 21 rfl x.f (fun W hSW => range_flag (row_file hSW) H20.out) Tryd.underlying9) (by assumption) ?_
            try simp only [Act.put, List.setIfInBounds_toArray, List.set_cons_zero, List.set_cons_succ]
            refine wpAnyH_ready (rs := [7]) (by kernel_rfl) (by simp) ?_
            refine AllReadyH.cons (by simp only [List.getElem?_toArray, List.getElem?_cons_succ, List.getElem?_cons_zero]; rfl) (fun K hK => ?_) AllReadyH.nil
            go_simp
            refine (flag_any x.f _).mono ?_
            rintro e v2 ⟨rfl, rfl⟩
            rename World => v1
            rw [HFO.out]
            go_wp2_with fail
            refine hK.out _ _ (HBX1.out) (fun hHeld2 => ?_)
            clear hK K hHeld
            have hHeld := hHeld2
            clear hHeld2
            try simp only [Act.put, List.setIfInBounds_toArray, List.set_cons_zero, List.set_cons_succ]
            refine wpAnyH_take (i := 8) (v := ?_) (by simp only [List.getElem?_toArray, List.getElem?_cons_succ, List.getElem?_cons_zero]; rfl) (by kernel_rfl) (by kernel_rfl) (by kernel_rfl) (fun _ _ _ h => h) (Or.inl ⟨by rfl, ?_⟩) (by assumption) ?_
            rotate_left
            · intro W hSW
              go_simp
              try with_reducible rfl
            try simp only [Act.put, List.setIfInBounds_toArray, List.set_cons_zero, List.set_cons_succ]
            refine wpAnyH_take (i := 9) (v := ?_) (by simp only [List.getElem?_toArray, List.getElem?_cons_succ, List.getElem?_cons_zero]; rfl) (by kernel_rfl) (by kernel_rfl) (by kernel_rfl) (fun _ _ _ h => h) (Or.inl ⟨by rfl, ?_⟩) (by assumption) ?_
            rotate_left
            · intro W hSW
              go_simp
              try with_reducible rfl
            try simp only [Act.put, List.setIfInBounds_toArray, List.set_cons_zero, List.set_cons_succ]
            refine wpAnyH_take (i := 10) (v := ?_) (by simp only [List.getElem?_toArray, List.getElem?_cons_succ, List.getElem?_cons_zero]; rfl) (by kernel_rfl) (by kernel_rfl) (by kernel_rfl) (fun _ _ _ h => h) (Or.inl ⟨by rfl, ?_⟩) (by assumption) ?_
            rotate_left
            · intro W hSW
              go_simp
              try with_reducible rfl
            try simp only [Act.put, List.setIfInBounds_toArray, List.set_cons_zero, List.set_cons_succ]
            refine wpAnyH_take (i := 11) (v := ?_) (by simp only [List.getElem?_toArray, List.getElem?_cons_succ, List.getElem?_cons_zero]; rfl) (by kernel_rfl) (by kernel_rfl) (by kernel_rfl) (fun _ _ _ h => h) (Or.inl ⟨by rfl, ?_⟩) (by assumption) ?_
            rotate_left
            · intro W hSW
              go_simp
              try with_reducible rfl
            try simp only [Act.put, List.setIfInBounds_toArray, List.set_cons_zero, List.set_cons_succ]
            refine wpAnyH_take (i := 12) (v := ?_) (by simp only [List.getElem?_toArray, List.getElem?_cons_succ, List.getElem?_cons_zero]; rfl) (by kernel_rfl) (by kernel_rfl) (by kernel_rfl) (fun _ _ _ h => h) (Or.inl ⟨by rfl, ?_⟩) (by assumption) ?_
            rotate_left
            · intro W hSW
              go_simp
              try with_reducible rfl
            try simp only [Act.put, List.setIfInBounds_toArray, List.set_cons_zero, List.set_cons_succ]
            refine wpAnyH_take (i := 13) (v := ?_) (by simp only [List.getElem?_toArray, List.getElem?_cons_succ, List.getElem?_cons_zero]; rfl) (by kernel_rfl) (by kernel_rfl) (by kernel_rfl) (fun _ _ _ h => h) (Or.inl ⟨by rfl, ?_⟩) (by assumption) ?_
            rotate_left
            · intro W hSW
              go_simp
              try with_reducible rfl
            try simp only [Act.put, List.setIfInBounds_toArray, List.set_cons_zero, List.set_cons_succ]
            refine wpAnyH_take (i := 14) (v := undef) (by simp only [List.getElem?_toArray, List.getElem?_cons_succ, List.getElem?_cons_zero]; rfl) (by kernel_rfl) (by kernel_rfl) (by kernel_rfl) (fun _ _ _ h => h) (Or.inr ⟨by rfl, rfl⟩) (by assumption) ?_
            try simp only [Act.put, List.setIfInBounds_toArray, List.set_cons_zero, List.set_cons_succ]
            refine wpAnyH_take (i := 15) (v := undef) (by simp only [List.getElem?_toArray, List.getElem?_cons_succ, List.getElem?_cons_zero]; rfl) (by kernel_rfl) (by kernel_rfl) (by kernel_rfl) (fun _ _ _ h => h) (Or.inr ⟨by rfl, rfl⟩) (by assumption) ?_
            try simp only [Act.put, List.setIfInBounds_toArray, List.set_cons_zero, List.set_cons_succ]
            refine wpAnyH_take (i := 16) (v := undef) (by simp only [List.getElem?_toArray, List.getElem?_cons_succ, List.getElem?_cons_zero]; rfl) (by kernel_rfl) (by kernel_rfl) (by kernel_rfl) (fun _ _ _ h => h) (Or.inr ⟨by rfl, rfl⟩) (by assumption) ?_
            try simp only [Act.put, List.setIfInBounds_toArray, List.set_cons_zero, List.set_cons_succ]
            refine wpAnyH_take (i := 17) (v := undef) (by simp only [List.getElem?_toArray, List.getElem?_cons_succ, List.getElem?_cons_zero]; rfl) (by kernel_rfl) (by kernel_rfl) (by kernel_rfl) (fun _ _ _ h => h) (Or.inr ⟨by rfl, rfl⟩) (by assumption) ?_
            try simp only [Act.put, List.setIfInBounds_toArray, List.set_cons_zero, List.set_cons_succ]
            refine wpAnyH_take (i := 18) (v := undef) (by simp only [List.getElem?_toArray, List.getElem?_cons_succ, List.getElem?_cons_zero]; rfl) (by kernel_rfl) (by kernel_rfl) (by kernel_rfl) (fun _ _ _ h => h) (Or.inr ⟨by rfl, rfl⟩) (by assumption) ?_
            try simp only [Act.put, List.setIfInBounds_toArray, List.set_cons_zero, List.set_cons_succ]
            refine wpAnyH_take (i := 19) (v := undef) (by simp only [List.getElem?_toArray, List.getElem?_cons_succ, List.getElem?_cons_zero]; rfl) (by kernel_rfl) (by kernel_rfl) (by kernel_rfl) (fun _ _ _ h => h) (Or.inr ⟨by rfl, rfl⟩) (by assumption) ?_
            try simp only [Act.put, List.setIfInBounds_toArray, List.set_cons_zero, List.set_cons_succ]
            refine wpAnyH_take (i := 20) (v := undef) (by simp only [List.getElem?_toArray, List.getElem?_cons_succ, List.getElem?_cons_zero]; rfl) (by kernel_rfl) (by kernel_rfl) (by kernel_rfl) (fun _ _ _ h => h) (Or.inr ⟨by rfl, rfl⟩) (by assumption) ?_
            try simp only [Act.put, List.setIfInBounds_toArray, List.set_cons_zero, List.set_cons_succ]
            refine wpAnyH_take (i := 21) (v := undef) (by simp only [List.getElem?_toArray, List.getElem?_cons_succ, List.getElem?_cons_zero]; rfl) (by kernel_rfl) (by kernel_rfl) (by kernel_rfl) (fun _ _ _ h => h) (Or.inr ⟨by rfl, rfl⟩) (by assumption) ?_
            try simp only [Act.put, List.setIfInBounds_toArray, List.set_cons_zero, List.set_cons_succ]
            refine wpAnyH_take (i := 22) (v := undef) (by simp only [List.getElem?_toArray, List.getElem?_cons_succ, List.getElem?_cons_zero]; rfl) (by kernel_rfl) (by kernel_rfl) (by kernel_rfl) (fun _ _ _ h => h) (Or.inr ⟨by rfl, rfl⟩) (by assumption) ?_
            try simp only [Act.put, List.setIfInBounds_toArray, List.set_cons_zero, List.set_cons_succ]
            refine wpAnyH_take (i := 23) (v := ?_) (by simp only [List.getElem?_toArray, List.getElem?_cons_succ, List.getElem?_cons_zero]; rfl) (by kernel_rfl) (by kernel_rfl) (by kernel_rfl) (fun _ _ _ h => h) (Or.inl ⟨by rfl, ?_⟩) (by assumption) ?_
            rotate_left
            · intro W hSW
              go_simp
              try with_reducible rfl
            try simp only [Act.put, List.setIfInBounds_toArray, List.set_cons_zero, List.set_cons_succ]
            refine wpAnyH_take (i := 24) (v := ?_) (by simp only [List.getElem?_toArray, List.getElem?_cons_succ, List.getElem?_cons_zero]; rfl) (by kernel_rfl) (by kernel_rfl) (by kernel_rfl) (fun _ _ _ h => h) (Or.inl ⟨by rfl, ?_⟩) (by assumption) ?_
            rotate_left
            · intro W hSW
              go_simp
              try with_reducible rfl
            try simp only [Act.put, List.setIfInBounds_toArray, List.set_cons_zero, List.set_cons_succ]
            refine wpAnyH_done (by kernel_rfl) ?_ _
            refine NoPanic.normal ?_
            clear hgt hgt2
            have HK1 : Hid (KM v1 w.heap.size (keysOf xs k)) := HKb.out.below HB1.out HKb.out.lt
            obtain ⟨w9, hup, hkm, hgb⟩ := KeyMap.store HK1.out strKey Tryd.underlying76 Tryd.underlying3 str_inj (by have h1 := HNB.out; have h2 := keysOf_len xs k; rw [HN.out] at h2; omega) x.p HKL.out (k : Int) (by omega) (by have h1 := HNB.out; have h2 := HKN.out; omega)
            rw [← keysOf_step HP.out] at hkm
            have HKM := Lib.hid hkm
            have HB9 : Hid (Below w.heap.size w w9) := (HBWb.out.trans (HB1.out.mono HBWb.out.size)).grown hgb (Nat.le_trans HBWb.out.size HB1.out.size) (fun g hg => by injection hg with hg; omega)
            have hcp := range_path (row_file HBX1.out)
            clear hkm hgb HKb HK1
            go_wp2_with (first
              | refine wpList_mapUpdate rfl 76 _ _ _ rfl (.map (some w.heap.size)) (.string x.p) (.int .i64 (k : Int)) rfl rfl rfl w9 hup ?_)
            exact ⟨⟨k + 1, by have := HKN.out; omega, by rw [WK.out _ rfl], HKM.out, HB9.out, fun j x' hj hx' => by
              by_cases hjk : j = k
              · subst hjk
                rw [HP.out] at hx'
                injection hx' with hx'
                subst hx'
                exact HGOOD.out
              · exact HOK.out j x' (by omega) hx'⟩, by have := HKN.out; rw [WK.out _ rfl]; simp [intOf]; omega⟩
          · obtain ⟨j, hj⟩ : ∃ j, k = j + 1 := ⟨k - 1, by omega⟩
            obtain ⟨y, hy⟩ : ∃ y, xs[j]? = some y := ⟨_, List.getElem?_eq_getElem (by have := HKN.out; rw [HN.out]; omega)⟩
            have HY := Lib.hid hy
            have HYK := Lib.hid (HYK0.out j y hy)
            obtain ⟨bl, hbl⟩ : ∃ r, Op.bytesLess y.p.toList x.p.toList = r := ⟨_, rfl⟩
            have HOKB : Hid (okAt xs k x = bl) := by show _ = _; rw [hj]; unfold okAt; rw [HRL.out, HFO.out]; simp only [HY.out]; rw [hbl]; rfl
            have HGE := Lib.hid (geq_str y.p x.p bl hbl)
            have HGG : Hid (∀ W, (eqGuard .geq 9 (.tmp 39) (.tmp 41) (.string y.p) (.string x.p)).run Tryd.prog W = .ok () W) := guard_geq _ _ _ _
            have hsub : IntKind.i64.wrap ((k : Int) - 1) = (j : Int) := by
              rw [show ((k : Int) - 1) = (j : Int) by omega]
              exact IntWalk.i64_in _ (by have := HNB.out; have := HKN.out; omega)
            have hgt : (0 : Int) < (k : Int) := by omega
            have hgt2 : 0 < k := by omega
            have hjn : (j : Int) < (n : Int) := by have := HKN.out; omega
            have hj0 : ¬ (j : Int) < 0 := by omega
            clear hy hbl hj hk0
            refine wp_region_noPanic ?_
            refine wp_region_held_drew (S := fun W => W.heap[bx]? = some (.cells (fileA x) 32 (0, 0)) ∧ W.rangeAt b (off + j * 22) (fileL y)) (by kernel_rfl) ?_ (fun hHeld => ?_)
            · exact ⟨HBX.out, HYK.out _ (Below.refl _ _).drew⟩
            refine wpAnyH_take (i := 0) (v := ?_) (by simp only [List.getElem?_toArray, List.getElem?_cons_zero]; rfl) (by kernel_rfl) (by kernel_rfl) (by kernel_rfl) (fun _ _ _ h => h) (Or.inl ⟨by rfl, ?_⟩) (by assumption) ?_
            rotate_left
            · intro W hSW
              go_simp
              try with_reducible rfl
            try simp only [Act.put, List.setIfInBounds_toArray, List.set_cons_zero, List.set_cons_succ]
            refine wpAnyH_take (i := 1) (by simp only [List.getElem?_toArray, List.getElem?_cons_succ, List.getElem?_cons_zero]; rfl) (by kernel_rfl) (by kernel_rfl) (by kernel_rfl) (fun _ _ _ h => h) (yieldsIf_load_str (by rfl) 9 _ rfl bx 0 rfl x.p (fun W hSW => range_path (row_file hSW.1)) Tryd.underlying9) (by assumption) ?_
            try simp only [Act.put, List.setIfInBounds_toArray, List.set_cons_zero, List.set_cons_succ]
            refine wpAnyH_ready (rs := [2]) (by kernel_rfl) (by simp) ?_
            refine AllReadyH.cons (by simp only [List.getElem?_toArray, List.getElem?_cons_succ, List.getElem?_cons_zero]; rfl) (fun K hK => ?_) AllReadyH.nil
            go_simp
            refine (right_any x.p _ (HE.out.below HBWb.out.drew)).mono ?_
            rintro e v1 ⟨rfl, hb⟩
            rw [HRL.out]
            have hb1 : Below wb.heap.size wb v1 := (Below.refl _ _).drew.trans hb
            have HB1 := Lib.hid hb1
            have HBX1 := Lib.hid ((hb1.block bx HBL.out).trans HBX.out)
            clear hb hb1
            go_wp2_with fail
            refine hK.out _ _ (⟨HBX1.out, HYK.out v1 HB1.out⟩) (fun hHeld2 => ?_)
            clear hK K hHeld
            have hHeld := hHeld2
            clear hHeld2
            try simp only [Act.put, List.setIfInBounds_toArray, List.set_cons_zero, List.set_cons_succ]
            refine wpAnyH_take (i := 3) (v := ?_) (by simp only [List.getElem?_toArray, List.getElem?_cons_succ, List.getElem?_cons_zero]; rfl) (by kernel_rfl) (by kernel_rfl) (by kernel_rfl) (fun _ _ _ h => h) (Or.inl ⟨by rfl, ?_⟩) (by assumption) ?_
            rotate_left
            · intro W hSW
              go_simp
              try with_reducible rfl
            try simp only [Act.put, List.setIfInBounds_toArray, List.set_cons_zero, List.set_cons_succ]
            refine wpAnyH_take (i := 4) (v := ?_) (by simp only [List.getElem?_toArray, List.getElem?_cons_succ, List.getElem?_cons_zero]; rfl) (by kernel_rfl) (by kernel_rfl) (by kernel_rfl) (fun _ _ _ h => h) (Or.inl ⟨by rfl, ?_⟩) (by assumption) ?_
            rotate_left
            · intro W hSW
              go_simp
              try with_reducible rfl
            try simp only [Act.put, List.setIfInBounds_toArray, List.set_cons_zero, List.set_cons_succ]
            refine wpAnyH_take (i := 5) (v := ?_) (by simp only [List.getElem?_toArray, List.getElem?_cons_succ, List.getElem?_cons_zero]; rfl) (by kernel_rfl) (by kernel_rfl) (by kernel_rfl) (fun _ _ _ h => h) (Or.inl ⟨by rfl, ?_⟩) (by assumption) ?_
            rotate_left
            · intro W hSW
              go_simp
              try with_reducible rfl
            try simp only [Act.put, List.setIfInBounds_toArray, List.set_cons_zero, List.set_cons_succ]
            refine wpAnyH_take (i := 6) (by simp only [List.getElem?_toArray, List.getElem?_cons_succ, List.getElem?_cons_zero]; rfl) (by kernel_rfl) (by kernel_rfl) (by kernel_rfl) (fun _ _ _ h => h) (yieldsIf_load_str (by rfl) 9 _ rfl bx 21 rfl x.f (fun W hSW => range_flag (row_file hSW.1) H20.out) Tryd.underlying9) (by assumption) ?_
            try simp only [Act.put, List.setIfInBounds_toArray, List.set_cons_zero, List.set_cons_succ]
            refine wpAnyH_ready (rs := [7]) (by kernel_rfl) (by simp) ?_
            refine AllReadyH.cons (by simp only [List.getElem?_toArray, List.getElem?_cons_succ, List.getElem?_cons_zero]; rfl) (fun K hK => ?_) AllReadyH.nil
            go_simp
            refine (flag_any x.f _).mono ?_
            rintro e v2 ⟨rfl, rfl⟩
            rename World => v1
            rw [HFO.out]
            go_wp2_with fail
            refine hK.out _ _ (⟨HBX1.out, HYK.out _ HB1.out⟩) (fun hHeld2 => ?_)
            clear hK K hHeld
            have hHeld := hHeld2
            clear hHeld2
            try simp only [Act.put, List.setIfInBounds_toArray, List.set_cons_zero, List.set_cons_succ]
            refine wpAnyH_take (i := 8) (v := ?_) (by simp only [List.getElem?_toArray, List.getElem?_cons_succ, List.getElem?_cons_zero]; rfl) (by kernel_rfl) (by kernel_rfl) (by kernel_rfl) (fun _ _ _ h => h) (Or.inl ⟨by rfl, ?_⟩) (by assumption) ?_
            rotate_left
            · intro W hSW
              go_simp
              try with_reducible rfl
            try simp only [Act.put, List.setIfInBounds_toArray, List.set_cons_zero, List.set_cons_succ]
            refine wpAnyH_take (i := 9) (v := ?_) (by simp only [List.getElem?_toArray, List.getElem?_cons_succ, List.getElem?_cons_zero]; rfl) (by kernel_rfl) (by kernel_rfl) (by kernel_rfl) (fun _ _ _ h => h) (Or.inl ⟨by rfl, ?_⟩) (by assumption) ?_
            rotate_left
            · intro W hSW
              go_simp
              try with_reducible rfl
            try simp only [Act.put, List.setIfInBounds_toArray, List.set_cons_zero, List.set_cons_succ]
            refine wpAnyH_take (i := 10) (v := ?_) (by simp only [List.getElem?_toArray, List.getElem?_cons_succ, List.getElem?_cons_zero]; rfl) (by kernel_rfl) (by kernel_rfl) (by kernel_rfl) (fun _ _ _ h => h) (Or.inl ⟨by rfl, ?_⟩) (by assumption) ?_
            rotate_left
            · intro W hSW
              go_simp
              try with_reducible rfl
            try simp only [Act.put, List.setIfInBounds_toArray, List.set_cons_zero, List.set_cons_succ]
            refine wpAnyH_take (i := 11) (v := ?_) (by simp only [List.getElem?_toArray, List.getElem?_cons_succ, List.getElem?_cons_zero]; rfl) (by kernel_rfl) (by kernel_rfl) (by kernel_rfl) (fun _ _ _ h => h) (Or.inl ⟨by rfl, ?_⟩) (by assumption) ?_
            rotate_left
            · intro W hSW
              go_simp
              try with_reducible rfl
            try simp only [Act.put, List.setIfInBounds_toArray, List.set_cons_zero, List.set_cons_succ]
            refine wpAnyH_take (i := 12) (v := ?_) (by simp only [List.getElem?_toArray, List.getElem?_cons_succ, List.getElem?_cons_zero]; rfl) (by kernel_rfl) (by kernel_rfl) (by kernel_rfl) (fun _ _ _ h => h) (Or.inl ⟨by rfl, ?_⟩) (by assumption) ?_
            rotate_left
            · intro W hSW
              go_simp
              try with_reducible rfl
            try simp only [Act.put, List.setIfInBounds_toArray, List.set_cons_zero, List.set_cons_succ]
            refine wpAnyH_take (i := 13) (v := ?_) (by simp only [List.getElem?_toArray, List.getElem?_cons_succ, List.getElem?_cons_zero]; rfl) (by kernel_rfl) (by kernel_rfl) (by kernel_rfl) (fun _ _ _ h => h) (Or.inl ⟨by rfl, ?_⟩) (by assumption) ?_
            rotate_left
            · intro W hSW
              go_simp
              try with_reducible rfl
            try simp only [Act.put, List.setIfInBounds_toArray, List.set_cons_zero, List.set_cons_succ]
            refine wpAnyH_take (i := 14) (v := ?_) (by simp only [List.getElem?_toArray, List.getElem?_cons_succ, List.getElem?_cons_zero]; rfl) (by kernel_rfl) (by kernel_rfl) (by kernel_rfl) (fun _ _ _ h => h) (Or.inl ⟨by rfl, ?_⟩) (by assumption) ?_
            rotate_left
            · intro W hSW
              go_simp
              try with_reducible rfl
            try simp only [Act.put, List.setIfInBounds_toArray, List.set_cons_zero, List.set_cons_succ]
            refine wpAnyH_take (i := 15) (v := ?_) (by simp only [List.getElem?_toArray, List.getElem?_cons_succ, List.getElem?_cons_zero]; rfl) (by kernel_rfl) (by kernel_rfl) (by kernel_rfl) (fun _ _ _ h => h) (Or.inl ⟨by rfl, ?_⟩) (by assumption) ?_
            rotate_left
            · intro W hSW
              go_simp
              try with_reducible rfl
            try simp only [Act.put, List.setIfInBounds_toArray, List.set_cons_zero, List.set_cons_succ]
            refine wpAnyH_take (i := 16) (v := ?_) (by simp only [List.getElem?_toArray, List.getElem?_cons_succ, List.getElem?_cons_zero]; rfl) (by kernel_rfl) (by kernel_rfl) (by kernel_rfl) (fun _ _ _ h => h) (Or.inl ⟨by rfl, ?_⟩) (by assumption) ?_
            rotate_left
            · intro W hSW
              go_simp
              try with_reducible rfl
            try simp only [Act.put, List.setIfInBounds_toArray, List.set_cons_zero, List.set_cons_succ]
            refine wpAnyH_take (i := 17) (v := ?_) (by simp only [List.getElem?_toArray, List.getElem?_cons_succ, List.getElem?_cons_zero]; rfl) (by kernel_rfl) (by kernel_rfl) (by kernel_rfl) (fun _ _ _ h => h) (Or.inl ⟨by rfl, ?_⟩) (by assumption) ?_
            rotate_left
            · intro W hSW
              go_simp
              try with_reducible rfl
            try simp only [Act.put, List.setIfInBounds_toArray, List.set_cons_zero, List.set_cons_succ]
            refine wpAnyH_take (i := 18) (v := ?_) (by simp only [List.getElem?_toArray, List.getElem?_cons_succ, List.getElem?_cons_zero]; rfl) (by kernel_rfl) (by kernel_rfl) (by kernel_rfl) (fun _ _ _ h => h) (Or.inl ⟨by rfl, ?_⟩) (by assumption) ?_
            rotate_left
            · intro W hSW
              go_simp
              try with_reducible rfl
            try simp only [Act.put, List.setIfInBounds_toArray, List.set_cons_zero, List.set_cons_succ]
            refine wpAnyH_take (i := 19) (by simp only [List.getElem?_toArray, List.getElem?_cons_succ, List.getElem?_cons_zero]; rfl) (by kernel_rfl) (by kernel_rfl) (by kernel_rfl) (fun _ _ _ h => h) (yieldsIf_load_str (by rfl) 9 _ rfl b (off + j * 22) rfl y.p (fun W hSW => range_path hSW.2) Tryd.underlying9) (by assumption) ?_
            try simp only [Act.put, List.setIfInBounds_toArray, List.set_cons_zero, List.set_cons_succ]
            refine wpAnyH_take (i := 20) (v := ?_) (by simp only [List.getElem?_toArray, List.getElem?_cons_succ, List.getElem?_cons_zero]; rfl) (by kernel_rfl) (by kernel_rfl) (by kernel_rfl) (fun _ _ _ h => h) (Or.inl ⟨by rfl, ?_⟩) (by assumption) ?_
            rotate_left
            · intro W hSW
              go_simp
              try with_reducible rfl
            try simp only [Act.put, List.setIfInBounds_toArray, List.set_cons_zero, List.set_cons_succ]
            refine wpAnyH_take (i := 21) (by simp only [List.getElem?_toArray, List.getElem?_cons_succ, List.getElem?_cons_zero]; rfl) (by kernel_rfl) (by kernel_rfl) (by kernel_rfl) (fun _ _ _ h => h) (yieldsIf_load_str (by rfl) 9 _ rfl bx 0 rfl x.p (fun W hSW => range_path (row_file hSW.1)) Tryd.underlying9) (by assumption) ?_
            try simp only [Act.put, List.setIfInBounds_toArray, List.set_cons_zero, List.set_cons_succ]
            refine wpAnyH_take (i := 22) (by simp only [List.getElem?_toArray, List.getElem?_cons_succ, List.getElem?_cons_zero]; rfl) (by kernel_rfl) (by kernel_rfl) (by kernel_rfl) (fun _ _ _ h => h) (yieldsIf_eql (by rfl) .geq 9 _ _ _ rfl (.string y.p) (.string x.p) rfl rfl (.bool (!bl)) (fun W => HGG.out W) (fun W => HGE.out W)) (by assumption) ?_
            try simp only [Act.put, List.setIfInBounds_toArray, List.set_cons_zero, List.set_cons_succ]
            refine wpAnyH_take (i := 23) (v := ?_) (by simp only [List.getElem?_toArray, List.getElem?_cons_succ, List.getElem?_cons_zero]; rfl) (by kernel_rfl) (by kernel_rfl) (by kernel_rfl) (fun _ _ _ h => h) (Or.inl ⟨by rfl, ?_⟩) (by assumption) ?_
            rotate_left
            · intro W hSW
              go_simp
              try with_reducible rfl
            try simp only [Act.put, List.setIfInBounds_toArray, List.set_cons_zero, List.set_cons_succ]
            refine wpAnyH_take (i := 24) (v := ?_) (by simp only [List.getElem?_toArray, List.getElem?_cons_succ, List.getElem?_cons_zero]; rfl) (by kernel_rfl) (by kernel_rfl) (by kernel_rfl) (fun _ _ _ h => h) (Or.inl ⟨by rfl, ?_⟩) (by assumption) ?_
            rotate_left
            · intro W hSW
              go_simp
              try with_reducible rfl
            try simp only [Act.put, List.setIfInBounds_toArray, List.set_cons_zero, List.set_cons_succ]
            refine wpAnyH_done (by kernel_rfl) ?_ _
            refine NoPanic.normal ?_
            clear hsub hgt hgt2 hjn hj0
            cases bl
            · have HBAD := HOKB
              go_wp2_with fail
              (try simp only [Exit.inBlock, Exit.then])
              go_ret
              exact ⟨by rw [rightM_bad HP.out HBAD.out]; rfl, HBWb.out.trans (HB1.out.mono HBWb.out.size)⟩
            · have HGOOD := HOKB
              have HK1 : Hid (KM v1 w.heap.size (keysOf xs k)) := HKb.out.below HB1.out HKb.out.lt
              obtain ⟨w9, hup, hkm, hgb⟩ := KeyMap.store HK1.out strKey Tryd.underlying76 Tryd.underlying3 str_inj (by have h1 := HNB.out; have h2 := keysOf_len xs k; rw [HN.out] at h2; omega) x.p HKL.out (k : Int) (by omega) (by have h1 := HNB.out; have h2 := HKN.out; omega)
              rw [← keysOf_step HP.out] at hkm
              have HKM := Lib.hid hkm
              have HB9 : Hid (Below w.heap.size w w9) := (HBWb.out.trans (HB1.out.mono HBWb.out.size)).grown hgb (Nat.le_trans HBWb.out.size HB1.out.size) (fun g hg => by injection hg with hg; omega)
              have hcp := range_path (row_file HBX1.out)
              clear hkm hgb HKb HK1
              go_wp2_with (first
                | refine wpList_mapUpdate rfl 76 _ _ _ rfl (.map (some w.heap.size)) (.string x.p) (.int .i64 (k : Int)) rfl rfl rfl w9 hup ?_)
              exact ⟨⟨k + 1, by have := HKN.out; omega, by rw [WK.out _ rfl], HKM.out, HB9.out, fun j x' hj hx' => by
                by_cases hjk : j = k
                · subst hjk
                  rw [HP.out] at hx'
                  injection hx' with hx'
                  subst hx'
                  exact HGOOD.out
                · exact HOK.out j x' (by omega) hx'⟩, by have := HKN.out; rw [WK.out _ rfl]; simp [intOf]; omega⟩
end Go.Proofs.YtcbjadecocggjaaDoor
