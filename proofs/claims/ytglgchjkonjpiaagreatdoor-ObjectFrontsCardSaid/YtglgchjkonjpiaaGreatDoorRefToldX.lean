/- The document's unpacking: a block with its own codes: the walk. -/
import Derived.Test.YtglgchjkonjpiaaGreatDoorRefD
import Derived.Outline
namespace Go.Proofs.YtglgchjkonjpiaaGreatDoor
open Go.RowKit Plain
set_option linter.unusedVariables false
section
variable {w0 : World} {Sb : Nat} {ba : Option Addr} {bn bc : Nat} {M : Int} {N : Nat} {bs : List Int}
set_option maxRecDepth 100000 in
set_option maxHeartbeats 64000000 in
theorem rtold (HS : SrcW w0 ba bn M N bs) (w : World) (p bad : Nat) (mv : Value) (made : List Int) (H : RL w0 Sb ba bn bc M w p bad mv made) :
    Calls Tryz.prog 34 #[.pointer (some ⟨Sb, 0, none⟩)] w (SignsQ w0 Sb ba bn bc M w bad mv (tl1 N (8 * bn) M.toNat made p)) := by
  obtain ⟨R, hR⟩ : ∃ R, tl1 N (8 * bn) M.toNat made p = R := ⟨_, rfl⟩
  rw [hR]
  have HK0 : Hid (∀ b' y, Tr bad (tl1 N (8 * bn) M.toNat made p) b' y → Tr bad R b' y) := fun b' y h => by rw [hR] at h; exact h
  have HSS := Lib.hid HS
  have HRL := Lib.hid H
  have HMV : Hid (∀ k, mv.ownBlock = some k → k < w.heap.size) := H.own
  have hSw := H.lt
  have hbase : w0.heap.size ≤ Sb := H.2.2.2.2.2.1
  have hM9 := HS.most
  have hcall := rnum HS w p bad mv made 5 (by omega) H
  clear HS H hR
  go_enter Tryz.func34, Tryz.ntmps34
  go_wp2_with fail
  refine hcall.mono ?_
  rintro e w1 ⟨x1, q1, b1, rfl, hx1, hr1, ht1, htr1⟩
  have HR1 := Lib.hid hr1
  have HT1 := Lib.hid ht1
  have HTR1 := Lib.hid htr1
  have hx1 : x1 ≤ 31 := by have h32 : (2 : Nat) ^ 5 = 32 := rfl
                           omega
  clear hr1 ht1 htr1 hcall HRL
  go_upto_if 19 with fail
  go_cut [] from 16 (fun wx => ∃ b2 : Nat, RL w0 Sb ba bn bc M wx q1 b2 mv made ∧ Turn Sb mv mv w wx ∧ (b2 = 0 → x1 ≤ 29) ∧ ∀ b' y, Tr b2 (tl2 N (8 * bn) M.toNat made (x1 + 257, q1)) b' y → Tr bad R b' y)
  case first =>
    by_cases h29 : x1 ≤ 29
    · have h29i : ¬ 29 < (x1 : Int) := by omega
      have H29 := Lib.hid h29
      clear h29
      go_wp2_with fail
      go_meet
      exact ⟨b1, HR1.out, HT1.out, fun _ => H29.out, fun b' y h => HK0.out b' y (by
        have h2 := H29.out
        exact (tr_how_ok HTR1.out (by omega)).bind h)⟩
    · have h29i : 29 < (x1 : Int) := by omega
      have H29 := Lib.hid h29
      have hstop : Calls Tryz.prog 29 #[.pointer (some ⟨Sb, 0, none⟩), .int .i64 4] w1 fun e w' => e = .returned (.tuple #[]) ∧ RL w0 Sb ba bn bc M w' q1 (orFour b1) mv made ∧ Turn Sb mv mv w1 w' := rstop w1 q1 b1 mv made 4 HR1.out
      clear h29
      go_wp2_with fail
      refine hstop.mono ?_
      rintro e w2 ⟨rfl, h1, h2⟩
      have HR2 := Lib.hid h1
      have HT2 := Lib.hid (HT1.out.trans h2)
      clear h1 h2 hstop
      go_wp2_with fail
      go_meet
      exact ⟨orFour b1, HR2.out, HT2.out, fun h => absurd h (orFour_ne b1), fun b' y h => HK0.out b' y (by
        have h2 := H29.out
        have h3 := tr_how_err HTR1.out (least := 257) (most := 286) (by omega) (0, 0)
        rw [h.2 (orFour_ne b1)]
        exact h3.bind (Tr.dead (orFour_ne b1) _ _))⟩
  case rest =>
    obtain ⟨b2, hr2, ht2, hx29, hk2⟩ := hcut
    have HR2 := Lib.hid hr2
    have HT2 := Lib.hid ht2
    have HX29 := Lib.hid hx29
    have HK2 := Lib.hid hk2
    have hcall := rnum HSS.out wc q1 b2 mv made 5 (by omega) hr2
    clear hr2 ht2 hx29 hk2 HR1 HT1 HTR1 HK0
    go_wp2_with fail
    refine hcall.mono ?_
    rintro e w3 ⟨x2, q2, b3, rfl, hx2, hr3, ht3, htr3⟩
    have HR3 := Lib.hid hr3
    have HT3 := Lib.hid (HT2.out.trans ht3)
    have HTR3 := Lib.hid htr3
    have hx2 : x2 ≤ 31 := by have h32 : (2 : Nat) ^ 5 = 32 := rfl
                             omega
    have HX3 : Hid (b3 = 0 → x1 ≤ 29) := fun h0 => HX29.out (by subst h0; exact htr3.live.1)
    clear hr3 ht3 htr3 hcall HR2 HT2 HX29
    go_upto_if 25 with fail
    go_cut [] from 16 (fun wx => ∃ b4 : Nat, RL w0 Sb ba bn bc M wx q2 b4 mv made ∧ Turn Sb mv mv w wx ∧ (b4 = 0 → x1 ≤ 29 ∧ x2 ≤ 29) ∧ ∀ b' y, Tr b4 (tl3 N (8 * bn) M.toNat made (x1 + 257) (x2 + 1, q2)) b' y → Tr bad R b' y)
    case first =>
      by_cases h29 : x2 ≤ 29
      · have h29i : ¬ 29 < (x2 : Int) := by omega
        have H29 := Lib.hid h29
        clear h29
        go_wp2_with fail
        go_meet
        exact ⟨b3, HR3.out, HT3.out, fun h0 => ⟨HX3.out h0, H29.out⟩, fun b' y h => HK2.out b' y (by
          have h2 := H29.out
          exact (tr_how_ok HTR3.out (by omega)).bind h)⟩
      · have h29i : 29 < (x2 : Int) := by omega
        have H29 := Lib.hid h29
        have hstop : Calls Tryz.prog 29 #[.pointer (some ⟨Sb, 0, none⟩), .int .i64 4] w3 fun e w' => e = .returned (.tuple #[]) ∧ RL w0 Sb ba bn bc M w' q2 (orFour b3) mv made ∧ Turn Sb mv mv w3 w' := rstop w3 q2 b3 mv made 4 HR3.out
        clear h29
        go_wp2_with fail
        refine hstop.mono ?_
        rintro e w2 ⟨rfl, h1, h2⟩
        have HR2 := Lib.hid h1
        have HT2 := Lib.hid (HT3.out.trans h2)
        clear h1 h2 hstop
        go_wp2_with fail
        go_meet
        exact ⟨orFour b3, HR2.out, HT2.out, fun h => absurd h (orFour_ne b3), fun b' y h => HK2.out b' y (by
          have h2 := H29.out
          have h3 := tr_how_err HTR3.out (least := 1) (most := 30) (by omega) (0, 0)
          rw [h.2 (orFour_ne b3)]
          exact h3.bind (Tr.dead (orFour_ne b3) _ _))⟩
    case rest =>
      obtain ⟨b4, hr4, ht4, hx29, hk4⟩ := hcut
      have HR4 := Lib.hid hr4
      have HT4 := Lib.hid ht4
      have HX4 := Lib.hid hx29
      have HK4 := Lib.hid hk4
      have hcall := rnum HSS.out wc q2 b4 mv made 4 (by omega) hr4
      clear hr4 ht4 hx29 hk4 HR3 HT3 HTR3 HK2 HX3
      go_wp2_with fail
      refine hcall.mono ?_
      rintro e w5 ⟨x3, q3, b5, rfl, hx3, hr5, ht5, htr5⟩
      have HT5 := Lib.hid (HT4.out.trans ht5)
      have hx3 : x3 ≤ 15 := by have h16 : (2 : Nat) ^ 4 = 16 := rfl
                               omega
      have HX5 : Hid (b5 = 0 → x1 ≤ 29 ∧ x2 ≤ 29) := fun h0 => HX4.out (by subst h0; exact htr5.live.1)
      have HK5 : Hid (∀ b' y, Tr b5 (bindE (cl1 N (8 * bn) (x3, q3)) (tl4 N (8 * bn) M.toNat made (x1 + 257) (x2 + 1))) b' y → Tr bad R b' y) := fun b' y h => HK4.out b' y (by
        rw [tl3, cl_eq]
        have e : ∀ (r : Except Nat (Nat × Nat)) (f : Nat × Nat → Except Nat (Nat × CodeS)) (g : Nat × CodeS → Except Nat (Nat × List Int)), bindE (bindE r f) g = bindE r fun v => bindE (f v) g := fun r f g => by
          cases r <;> rfl
        rw [e]
        exact htr5.bind h)
      have hmk := make_is 19 (by omega)
      obtain ⟨zs, hzs⟩ : ∃ zs, List.replicate 19 (0 : Nat) = zs := ⟨_, rfl⟩
      rw [hzs] at hmk
      have HZS := Lib.hid hzs
      rw [show ((19 : Nat) : Int) = 19 from rfl] at hmk
      have HL5 : Hid ((w5.alloc (.cells (I64s zs).toArray 3)).heap[w5.heap.size]? = some (.cells (I64s zs).toArray 3 (0, 0))) := heap_alloc_new w5 _
      have HB5 : Hid (Below w5.heap.size w5 (w5.alloc (.cells (I64s zs).toArray 3))) := (Below.refl _ _).alloc (Nat.le_refl _) _
      have hS5 := hr5.lt
      have HM5 : Hid (∀ k, mv.ownBlock = some k → k < w5.heap.size) := hr5.own
      have HR5 := Lib.hid (hr5.below HB5.out)
      have HT6 := Lib.hid (HT5.out.trans (Turn.of_below HB5.out))
      have hww : w.heap.size ≤ w5.heap.size := HT5.out.size
      obtain ⟨w6, hw6⟩ : ∃ W, (w5.alloc (.cells (I64s zs).toArray 3)).alloc (.cells #[.int .i64 16, .int .i64 17, .int .i64 18, .int .i64 0, .int .i64 8, .int .i64 7, .int .i64 9, .int .i64 6, .int .i64 10, .int .i64 5, .int .i64 11, .int .i64 4, .int .i64 12, .int .i64 3, .int .i64 13, .int .i64 2, .int .i64 14, .int .i64 1, .int .i64 15] 3) = W := ⟨_, rfl⟩
      have HB6 : Hid (Below (w5.alloc (.cells (I64s zs).toArray 3)).heap.size (w5.alloc (.cells (I64s zs).toArray 3)) w6) := by
        show Below _ _ _
        rw [← hw6]
        exact (Below.refl _ _).alloc (Nat.le_refl _) _
      have hsz5 : (w5.alloc (.cells (I64s zs).toArray 3)).heap.size = w5.heap.size + 1 := by simp
      have HA6 : Hid (w6.heap[w5.heap.size + 1]? = some (.cells (I64s orderN).toArray 3 (0, 0))) := by
        show _ = _
        rw [← hw6, ← hsz5]
        exact heap_alloc_new _ _
      have HL6 : Hid (w6.heap[w5.heap.size]? = some (.cells (I64s zs).toArray 3 (0, 0))) := (HB6.out.block _ (by omega)).trans HL5.out
      have HR6 := Lib.hid (HR5.out.below HB6.out)
      have HT7 := Lib.hid (HT6.out.trans (Turn.of_below HB6.out))
      clear hr5 ht5 htr5 hcall hzs HR4 HT4 HX4 HK4 HT5 hsz5
      go_wp2_with fail
      clear hw6 HR5 HT6 HL5 HB6 HB5 hmk
      obtain ⟨Lb, hLb⟩ : ∃ B, w5.heap.size = B := ⟨_, rfl⟩
      rw [hLb] at HA6 HL6 HM5 hww hS5
      rw [hLb]
      clear hLb
      go_loopw [7] (fun v wr => ∃ (i r b : Nat) (ls : List Nat), v = .int .i64 (i : Int) ∧ i ≤ x3 + 4 ∧ ls.length = 19 ∧ (∀ y ∈ ls, y ≤ 15) ∧ wr.heap[Lb + 1]? = some (.cells (I64s orderN).toArray 3 (0, 0)) ∧ wr.heap[Lb]? = some (.cells (I64s ls).toArray 3 (0, 0)) ∧ RL w0 Sb ba bn bc M wr r b mv made ∧ Turn Sb mv mv w wr ∧ (b = 0 → b5 = 0) ∧
        ∀ b' y, Tr b (toldGo N (8 * bn) ((orderN.take (x3 + 4)).drop i) r ls) b' y → Tr b5 (toldGo N (8 * bn) (orderN.take (x3 + 4)) q3 zs) b' y) (fun v _ => 19 - (intOf v).toNat)
      case atStart => exact ⟨0, q3, b5, zs, rfl, by omega, by rw [← HZS.out]; simp, fun y hy => by rw [← HZS.out] at hy; rw [(List.mem_replicate.1 hy).2]; omega, HA6.out, HL6.out, HR6.out, HT7.out, fun h => h, fun b' y h => h⟩
      case round =>
        obtain ⟨i, r, b, ls, rfl, hi, hll, hl15, hord, hl, ho, ht, hbz, hs⟩ := hrel
        have HLL := Lib.hid hll
        have HL15 := Lib.hid hl15
        have HORDr := Lib.hid hord
        have HLr := Lib.hid hl
        have HRr := Lib.hid ho
        have HTr := Lib.hid ht
        have HSr := Lib.hid hs
        have HBZ := Lib.hid hbz
        have hLlt : Lb < wr.heap.size := (Array.getElem?_eq_some_iff.1 hl).1
        have hAlt2 : Lb + 1 < wr.heap.size := (Array.getElem?_eq_some_iff.1 hord).1
        clear hll hl15 hord hl ho ht hbz hs HA6 HL6 HR6 HT7
        by_cases hlt : i < x3 + 4
        · have hlti : (i : Int) < (x3 : Int) + 4 := by omega
          have hi19 : i < 19 := by omega
          have hcell := (cell_row0 wr (Lb + 1) i _ _ _ HORDr.out).trans (i64s_get orderN i (by show i < 19; omega))
          have hs19 := orderN_get i hi19
          obtain ⟨s, hsv⟩ : ∃ s, orderN.getD i 0 = s := ⟨_, rfl⟩
          rw [hsv] at hcell hs19
          have hlen : (orderN.take (x3 + 4)).length = x3 + 4 := by rw [List.length_take]; show min (x3 + 4) 19 = x3 + 4; omega
          have HDR : Hid ((orderN.take (x3 + 4)).drop i = s :: (orderN.take (x3 + 4)).drop (i + 1)) := by
            show _ = _
            rw [drop_get _ _ (by omega), getD_take0 _ _ _ hlt, hsv]
          have HCALL : Hid (∀ W, Below wr.heap.size wr W → Calls Tryz.prog 28 #[.pointer (some ⟨Sb, 0, none⟩), .int .i64 3] W (NumR w0 Sb ba bn bc M N W r b mv made 3)) := fun W hW => rnum HSS.out W r b mv made 3 (by omega) (HRr.out.below hW)
          have hi19i : (i : Int) < 19 := by omega
          have hs19i : (s : Int) < 19 := by omega
          have hi0i : (0 : Int) ≤ (i : Int) := by omega
          have hs0i : (0 : Int) ≤ (s : Int) := by omega
          have hLO : Lb ≠ Sb := by omega
          have hAO : Lb + 1 ≠ Sb := by omega
          have hLm : mv.ownBlock ≠ some Lb := fun e => by have := HM5.out _ e; omega
          have hAm : mv.ownBlock ≠ some (Lb + 1) := fun e => by have := HM5.out _ e; omega
          have HLm := Lib.hid hLm
          have HAm := Lib.hid hAm
          clear hsv hlen hLm hAm
          go_wp2_with fail
          go_region_held3 (fun W => W.cell? ⟨Lb + 1, i, none⟩ = some (.int .i64 (s : Int)))
            (first | exact hcell | exact kcell | exact lcell | go_keep | assumption)
            (first | (go_at_call 28; refine (HCALL.out _ (Below.refl _ _).drew).mono ?_; rintro e w9 ⟨y, r2, b9, rfl, hy, hr9, ht9, htr9⟩; have HR9 := Lib.hid hr9; have HT9 := Lib.hid (ht9.after (Below.refl _ _).drew); have HTR9 := Lib.hid htr9; have hL9 := (HT9.out.block Lb hLlt hLO HLm.out).trans HLr.out; have HL9 := Lib.hid hL9; have HA9 := Lib.hid ((HT9.out.block (Lb + 1) hAlt2 hAO HAm.out).trans HORDr.out); have kcell := HT9.out.keeps hcell hAO HAm.out; have c9 := (cell_row0 w9 Lb s _ _ _ hL9).trans (i64s_get ls s (by rw [HLL.out]; exact hs19)); have f9 := free_row0 w9 Lb s _ _ hL9; clear hr9 ht9 htr9 hL9))
          have hset := heap_setCell_same w9 Lb s _ _ (.int .i64 (y : Int)) HL9.out
          rw [i64s_set] at hset
          have HSET := Lib.hid hset
          have HA10 : Hid ((w9.setCell ⟨Lb, s, none⟩ (.int .i64 (y : Int))).heap[Lb + 1]? = some (.cells (I64s orderN).toArray 3 (0, 0))) := (Below.heap_setCell w9 _ _ _ (by show Lb + 1 ≠ Lb; omega)).trans HA9.out
          have HR10 := Lib.hid (HR9.out.store Lb s (.int .i64 (y : Int)) hLO HLm.out (by omega))
          have HT10 : Hid (Turn Sb mv mv w (w9.setCell ⟨Lb, s, none⟩ (.int .i64 (y : Int)))) := (HTr.out.trans HT9.out).later ((Below.refl _ _).setCell (by show w.heap.size ≤ Lb; omega) _)
          have HY15 : Hid (y ≤ 15) := by
            have h8 : (2 : Nat) ^ 3 = 8 := rfl
            show _ ≤ _
            omega
          clear hset c9 f9 kcell hcell
          go_wp2_with fail
          go_roundw
          case rel => exact ⟨i + 1, r2, b9, ls.set s y, by go_num, by omega, by rw [List.length_set]; exact HLL.out, fun z hz => by
            rcases List.mem_or_eq_of_mem_set hz with h | h
            · exact HL15.out z h
            · rw [h]; exact HY15.out, HA10.out, HSET.out, HR10.out, HT10.out, fun h0 => HBZ.out (by subst h0; exact HTR9.out.live.1), fun b' z h => HSr.out b' z (by
              rw [HDR.out]
              have e : toldGo N (8 * bn) (s :: (orderN.take (x3 + 4)).drop (i + 1)) r ls = bindE (num N (8 * bn) r 3) fun v => toldGo N (8 * bn) ((orderN.take (x3 + 4)).drop (i + 1)) v.2 (ls.set s v.1) := by
                rw [toldGo]
                unfold bindE
                cases num N (8 * bn) r 3 <;> rfl
              rw [e]
              exact HTR9.out.bind h)⟩
          case measure => simp [intOf]; omega
        · have hlti : ¬ (i : Int) < (x3 : Int) + 4 := by omega
          obtain rfl : i = x3 + 4 := by omega
          have HK6 : Hid (∀ b' y, Tr b (bindE (cl2 (r, ls)) (tl4 N (8 * bn) M.toNat made (x1 + 257) (x2 + 1))) b' y → Tr bad R b' y) := fun b' y h => HK5.out b' y (by
            have ht := HSr.out b (r, ls) (by
              rw [List.drop_of_length_le (by rw [List.length_take]; exact Nat.min_le_left _ _), toldGo_nil]
              exact Tr.ok _ _)
            have e : ∀ (r : Except Nat (Nat × List Nat)) (f : Nat × List Nat → Except Nat (Nat × CodeS)) (g : Nat × CodeS → Except Nat (Nat × List Int)), bindE (bindE r f) g = bindE r fun v => bindE (f v) g := fun r f g => by
              cases r <;> rfl
            rw [cl1, HZS.out, e]
            exact ht.bind h)
          have hnums : NumsAt wr (some ⟨Lb, 0, none⟩) 19 ls := ⟨HLL.out, fun j hj => ⟨Lb, 0, rfl, by
            rw [Nat.zero_add]
            exact (cell_row0 wr Lb j _ _ _ HLr.out).trans (i64s_get ls j (by rw [HLL.out]; exact hj))⟩⟩
          have HNUM := Lib.hid hnums
          have H15 : Hid (∀ j, ls.getD j 0 ≤ 15) := fun j => by
            by_cases hj : j < ls.length
            · rw [List.getD_eq_getElem?_getD, List.getElem?_eq_getElem hj]
              exact HL15.out _ (List.getElem_mem hj)
            · rw [List.getD_eq_getElem?_getD, List.getElem?_eq_none (by omega)]; simp
          have HX6 : Hid (b = 0 → x1 ≤ 29 ∧ x2 ≤ 29) := fun h0 => HX5.out (HBZ.out h0)
          obtain ⟨-, -, -, -, c4⟩ := rs_cells HRr.out.1
          clear hnums HK5 HSr HX5 HBZ hi HORDr hAlt2 HZS
          go_upto_region 13 with fail
          go_cut [55] from 16 (fun v wx => wx = wr ∧ v = .bool (decide (b = 0) && !(goodN (codeOfN ls))))
          case first =>
            by_cases hb0 : b = 0
            · subst hb0
              have hgood := rgood_any wr (some ⟨Lb, 0, none⟩) 19 19 ls false (by omega) (by omega) HNUM.out H15.out
              rw [good_same H15.out] at hgood
              cases hg : goodN (codeOfN ls) with
              | true =>
                rw [hg] at hgood
                go_wp2_with fail
                refine hgood.mono ?_
                rintro e w7 ⟨rfl, rfl⟩
                clear hgood
                go_wp2_with fail
                go_meet
                exact ⟨rfl, by simp [hg]⟩
              | false =>
                rw [hg] at hgood
                go_wp2_with fail
                refine hgood.mono ?_
                rintro e w7 ⟨rfl, rfl⟩
                clear hgood
                go_wp2_with fail
                go_meet
                exact ⟨rfl, by simp [hg]⟩
            · have hbi : ((b : Int) == 0) = false := by simp; omega
              have hbj : ¬ ((b : Int) = 0) := by omega
              have HD : Hid (decide (b = 0) = false) := decide_eq_false hb0
              clear hb0
              go_wp2_with fail
              go_meet
              rw [HD.out]
              exact ⟨rfl, rfl⟩
          case rest =>
            obtain ⟨rfl, rfl⟩ := hcut
            obtain ⟨st, hst⟩ : ∃ st, (decide (b = 0) && !(goodN (codeOfN ls))) = st := ⟨_, rfl⟩
            have HST := Lib.hid hst
            rw [hst]
            clear hst
            go_upto_if 55 with fail
            go_cut [] from 16 (fun wx => ∃ b7 : Nat, RL w0 Sb ba bn bc M wx r b7 mv made ∧ Turn Sb mv mv w wx ∧ wx.heap[Lb]? = some (.cells (I64s ls).toArray 3 (0, 0)) ∧ (b7 = 0 → (x1 ≤ 29 ∧ x2 ≤ 29) ∧ goodN (codeOfN ls) = true) ∧ ∀ b' y, Tr b7 (tl4 N (8 * bn) M.toNat made (x1 + 257) (x2 + 1) (r, codeOfN ls)) b' y → Tr bad R b' y)
            case first =>
              cases st with
              | false =>
                go_wp2_with fail
                go_meet
                refine ⟨b, HRr.out, HTr.out, HLr.out, fun h0 => ⟨HX6.out h0, ?_⟩, fun b' y h => HK6.out b' y ?_⟩
                · have := HST.out
                  rw [h0] at this
                  simpa using this
                · by_cases hb0 : b = 0
                  · have := HST.out
                    rw [hb0] at this
                    have hg : goodN (codeOfN ls) = true := by simpa using this
                    have e : cl2 (r, ls) = .ok (r, codeOfN ls) := by unfold cl2; rw [if_pos hg]
                    rw [e]; exact h
                  · exact Tr.other hb0 h
              | true =>
                have hb0 : b = 0 ∧ goodN (codeOfN ls) = false := by simpa using HST.out
                obtain ⟨rfl, hg⟩ := hb0
                have HG := Lib.hid hg
                have hstop : Calls Tryz.prog 29 #[.pointer (some ⟨Sb, 0, none⟩), .int .i64 4] wc fun e w' => e = .returned (.tuple #[]) ∧ RL w0 Sb ba bn bc M w' r 4 mv made ∧ Turn Sb mv mv wc w' := rstop wc r 0 mv made 4 HRr.out
                clear hg
                go_wp2_with fail
                refine hstop.mono ?_
                rintro e w8 ⟨rfl, h1, h2⟩
                have HR8 := Lib.hid h1
                have HT8 := Lib.hid (HTr.out.trans h2)
                have HL8 := Lib.hid ((h2.block Lb hLlt (by omega) (fun e => by have := HM5.out _ e; omega)).trans HLr.out)
                clear h1 h2 hstop
                go_wp2_with fail
                go_meet
                exact ⟨4, HR8.out, HT8.out, HL8.out, fun h => (by cases h), fun b' y h => HK6.out b' y (by
                  have e : cl2 (r, ls) = .error 4 := by unfold cl2; rw [if_neg (by rw [HG.out]; simp)]
                  rw [e, h.2 (by omega)]
                  exact Tr.err 0 4 (by omega) _)⟩
            case rest =>
              obtain ⟨b7, hr7, ht7, hl7, hx7, hk7⟩ := hcut
              have HT7 := Lib.hid ht7
              have HX7 := Lib.hid hx7
              have HK7 := Lib.hid hk7
              have hnums : NumsAt wc (some ⟨Lb, 0, none⟩) 19 ls := ⟨HLL.out, fun j hj => ⟨Lb, 0, rfl, by
                rw [Nat.zero_add]
                exact (cell_row0 wc Lb j _ _ _ hl7).trans (i64s_get ls j (by rw [HLL.out]; exact hj))⟩⟩
              have hco := codes_any wc (some ⟨Lb, 0, none⟩) 19 19 ls (by omega) (by omega) hnums
              have HRw := Lib.hid hr7
              clear hnums hl7 hr7 ht7 hx7 hk7 HNUM HK6 HST HX6 HRr HTr HLr c4 hLlt
              go_wp2_with fail
              refine hco.mono ?_
              rintro e w8 ⟨rfl, hcr8, hb8⟩
              obtain ⟨Cb, hCb⟩ : ∃ C, wc.heap.size = C := ⟨_, rfl⟩
              have HCR8 : Hid (CodeRow w8 Cb (codesT ls)) := by rw [← hCb]; exact hcr8
              have hC8 : Cb < w8.heap.size := (Array.getElem?_eq_some_iff.1 HCR8.out).1
              have hSC : Sb < Cb := by rw [← hCb]; exact HRw.out.lt
              have HMC : Hid (∀ k, mv.ownBlock = some k → k < Cb) := by show ∀ k, _; rw [← hCb]; exact HRw.out.own
              have HR8 := Lib.hid (HRw.out.below hb8)
              have HT8 : Hid (Turn Sb mv mv w w8) := HT7.out.trans (Turn.of_below hb8)
              have hwC : w.heap.size ≤ Cb := by rw [← hCb]; exact HT7.out.size
              rw [hCb]
              have HLC : Hid ((codesT ls).length = 19) := by show _ = _; rw [codesT_len, HLL.out]
              have HCM : Hid (∀ x ∈ codesT ls, x.1 ≤ 15 ∧ x.2 < 2 ^ x.1) := codesT_mem ls
              obtain ⟨n, hn⟩ : ∃ n, x1 + 257 + (x2 + 1) = n := ⟨_, rfl⟩
              have hni : (x1 : Int) + (x2 : Int) + 258 = (n : Int) := by omega
              have hn9 : n ≤ 400 := by omega
              have hn1 : 1 ≤ n := by omega
              have HN := Lib.hid hn
              obtain ⟨B, hB⟩ : ∃ B, w8.heap.size = B := ⟨_, rfl⟩
              have HP : Hid (TP Sb mv w B Cb) := ⟨by omega, by omega, by omega, by omega, fun k hk => by have := HMC.out k hk; omega⟩
              have HTS8 : Hid (TS w0 Sb ba bn bc M mv made w B Cb (codesT ls) w8 r b7 0 [] none 0) := ⟨Row64.none _ _, HR8.out, HT8.out, HCR8.out, by omega⟩
              clear hco hcr8 hb8 HRw HT7 hCb hn hB HCR8 HR8 HT8 hC8 hwC
              go_wp2_with fail
              go_loopw [10] (fun lv wr => ∃ (q b k : Nat) (xs : List Nat) (a : Option Addr) (cp : Nat), lv = .slice a k cp ∧ TS w0 Sb ba bn bc M mv made w B Cb (codesT ls) wr q b k xs a cp ∧ (∀ y ∈ xs, y ≤ 15) ∧ (b = 0 → k ≤ n ∧ b7 = 0) ∧ k ≤ 1000 ∧ ∀ b' y, Tr b (lensAt N (8 * bn) (codeOfN ls) n q xs) b' y → Tr b7 (lensN N (8 * bn) (codeOfN ls) n r) b' y) (fun _ wr => leftR Sb bn wr)
              case atStart => exact ⟨r, b7, 0, [], none, 0, rfl, HTS8.out, (fun y hy => by cases hy), fun h => ⟨by omega, h⟩, by omega, fun b' y h => h⟩
              case round =>
                obtain ⟨q, b, k, xs, a, cp, rfl, hts, hl15, hbk, hk9, hs⟩ := hrel
                have HTS := Lib.hid hts
                have HL15 := Lib.hid hl15
                have HBK := Lib.hid hbk
                have HSr := Lib.hid hs
                have HKL : Hid (xs.length = k) := hts.1.len
                have HLEFT := Lib.hid (leftR_of hts.2.1.1)
                have hq8 := hts.2.1.2.1
                have HCm : Hid (mv.ownBlock ≠ some Cb) := fun e => (HP.out.2.2.2.2 _ e).2 rfl
                have c4 := hts.bad
                clear hts hl15 hbk hs HTS8
                by_cases hb0 : b = 0
                · subst hb0
                  rw [if_pos rfl] at HLEFT
                  have hkn := (HBK.out rfl).1
                  have HB7 := Lib.hid (HBK.out rfl).2
                  by_cases hlt : k < n
                  · as_aux_lemma =>
                      have hki : (k : Int) < (n : Int) := by omega
                      have HNK : Hid (¬ n ≤ xs.length) := by show ¬ _; rw [HKL.out]; omega
                      have hcall := rsign HSS.out (codesT ls) HCM.out 19 HLC.out (by omega) Cb (by omega) wr q 0 mv made HCm.out HTS.out.2.2.2.1 HTS.out.2.1
                      go_wp2_with fail
                      clear c4
                      refine hcall.mono ?_
                      rintro e w3 ⟨v, s, q2, b2, rfl, hv0, hv1, hr3, ht3, htr3⟩
                      have HTS3 := Lib.hid (HTS.out.turn HP.out hr3 ht3)
                      have c4 := HTS3.out.bad
                      have HTR3 : Hid (Tr 0 (signN N (8 * bn) (codeOfN ls) q) b2 (s, q2)) := htr3.of_eq (fun _ => sign_same H15.out (HX7.out HB7.out).2 _ _ _)
                      clear hr3 ht3 htr3 hcall HTS
                      by_cases hb2 : b2 = 0
                      · subst hb2
                        obtain ⟨rfl, hs⟩ := hv0 rfl
                        rw [HLC.out] at hs
                        have HSN := Lib.hid HTR3.out.live.2
                        have HAD := Lib.hid (adv_sign N (8 * bn) (codeOfN ls) q s q2 HSN.out)
                        clear hv0 hv1 HTR3
                        by_cases h16 : s < 16
                        · have h16i : (s : Int) < 16 := by omega
                          have HONE : Hid (oneLen N (8 * bn) (codeOfN ls) q xs = .ok (s, 1, q2)) := one_plain HSN.out (by omega) (by omega) (by omega)
                          have HKJ : Hid (¬ (n : Int) < (k : Int) + 1) := by show ¬ _; omega
                          have HNA : Hid (Below w3.heap.size w3 (w3.alloc (.cells #[.int .i64 (s : Int)] 3))) := (Below.refl _ _).alloc (Nat.le_refl _) _
                          have hc1 : (w3.alloc (.cells #[.int .i64 (s : Int)] 3)).cell? ⟨w3.heap.size, 0, none⟩ = some (.int .i64 (s : Int)) := by
                            have hh : (w3.alloc (.cells #[.int .i64 (s : Int)] 3)).heap[w3.heap.size]? = some (.cells #[.int .i64 (s : Int)] 3 (0, 0)) := heap_alloc_new w3 _
                            exact cell_row0 _ _ 0 _ _ _ hh
                          have HC1 := Lib.hid hc1
                          have HS16 := Lib.hid h16
                          have HK1 : Hid (k + 1 ≤ 1000000) := by show _ ≤ _; omega
                          clear hc1 h16
                          go_upto_region 23 with fail
                          apply wp_via_row (R := fun pa pc wx => TS w0 Sb ba bn bc M mv made w B Cb (codesT ls) wx q2 0 (k + 1) (xs ++ [s]) pa pc)
                          · have tok : True := trivial
                            go_wp2_with (
                              have _t := tok
                              at_builtin
                              refine wpList_append_i1 rfl _ _ rfl B (.slice a k cp) k xs rfl (HTS3.out.1.below HNA.out) ⟨w3.heap.size, 0, none⟩ s rfl HC1.out HK1.out (Nat.le_trans HTS3.out.2.2.2.2 HNA.out.size) ?_
                              intro pa pc p2 hr2 hg
                              have HTS5 := Lib.hid (HTS3.out.append HP.out hr2 hg)
                              go_simp
                              go_wp2_with fail
                              exact ⟨pa, pc, rfl, HTS5.out⟩)
                          · rintro pa pc wc hts5
                            obtain ⟨k1, hk1⟩ : ∃ k1, k + 1 = k1 := ⟨_, rfl⟩
                            rw [hk1] at hts5
                            rw [hk1]
                            have hkj : ¬ (n : Int) < (k1 : Int) := by have h0 := HKJ.out; omega
                            have HK2 := Lib.hid hk1
                            have HTS5 := Lib.hid hts5
                            have c5 := hts5.bad
                            clear hk1 hts5
                            go_wp2_with fail
                            go_roundw
                            case rel => exact ⟨q2, 0, k1, xs ++ [s], pa, pc, rfl, HTS5.out, (fun y hy => by
                              rcases List.mem_append.1 hy with h | h
                              · exact HL15.out y h
                              · rw [List.mem_singleton] at h
                                have := HS16.out
                                omega), fun _ => ⟨by have := HK2.out; omega, HB7.out⟩, by have := HK2.out; omega, fun b' y h => HSr.out b' y (by
                                  rw [lensAt_on hq8 HNK.out HONE.out (by rw [HKL.out]; omega)]
                                  exact h)⟩
                            case measure =>
                              rw [HLEFT.out, leftR_of HTS5.out.2.1.1, if_pos rfl]
                              have := HAD.out
                              omega
                        · have h16i : ¬ (s : Int) < 16 := by omega
                          by_cases h16e : s = 16
                          · subst h16e
                            by_cases hk0 : k = 0
                            · subst hk0
                              have hkj : ¬ (n : Int) < 0 := by omega
                              have HXN : Hid (xs = []) := List.eq_nil_of_length_eq_zero HKL.out
                              have hstop : Calls Tryz.prog 29 #[.pointer (some ⟨Sb, 0, none⟩), .int .i64 4] w3 fun e w' => e = .returned (.tuple #[]) ∧ RL w0 Sb ba bn bc M w' q2 4 mv made ∧ Turn Sb mv mv w3 w' := rstop w3 q2 0 mv made 4 HTS3.out.2.1
                              go_wp2_with fail
                              refine hstop.mono ?_
                              rintro e w6 ⟨rfl, h1, h2⟩
                              have HTS6 := Lib.hid (HTS3.out.turn HP.out h1 h2)
                              have c6 := HTS6.out.bad
                              clear h1 h2 hstop c4
                              go_wp2_with fail
                              go_roundw
                              case rel => exact ⟨q2, 4, 0, xs, a, cp, rfl, HTS6.out, HL15.out, fun h => (by cases h), by omega, fun b' z h => HSr.out b' z (by
                                rw [h.2 (by omega), lensAt_err hq8 HNK.out (one_none HSN.out HXN.out)]
                                exact Tr.err 0 4 (by omega) _)⟩
                              case measure =>
                                rw [HLEFT.out, leftR_of HTS6.out.2.1.1, if_neg (by omega)]
                                omega
                            · obtain ⟨i, hi⟩ : ∃ i, k - 1 = i := ⟨_, rfl⟩
                              have hii : (k : Int) - 1 = (i : Int) := by omega
                              have hik : (i : Int) < (k : Int) := by omega
                              have hlw : IntKind.i64.wrap ((k : Int) - 1) = (i : Int) := by rw [IntWalk.i64_in _ (by omega)]; exact hii
                              have hiw : IntKind.i64.wrap (i : Int) = (i : Int) := IntWalk.i64_in _ (by omega)
                              have hi0 : (0 : Int) ≤ (i : Int) := by omega
                              have hkz : ((k : Int) == 0) = false := by simp; omega
                              have hkz2 : ¬ (k : Int) = 0 := by omega
                              obtain ⟨g, o, hag, hcell⟩ := HTS3.out.1.nums.1.2 i (by omega)
                              have hgB := HTS3.out.1.nums.2 g o hag
                              subst hag
                              obtain ⟨y, hy⟩ : ∃ y, xs.getD i 0 = y := ⟨_, rfl⟩
                              rw [hy] at hcell
                              have HY15 : Hid (y ≤ 15) := by
                                show _ ≤ _
                                rw [← hy]
                                have hil : i < xs.length := by rw [HKL.out]; omega
                                rw [List.getD_eq_getElem?_getD, List.getElem?_eq_getElem hil]
                                exact HL15.out _ (List.getElem_mem hil)
                              have HLAST : Hid (xs.getD (xs.length - 1) 0 = y) := by show _ = _; rw [HKL.out, hi, hy]
                              have HXN : Hid (xs ≠ []) := fun e => by
                                have := HKL.out
                                rw [e] at this
                                exact hk0 this.symm
                              have hgS : g ≠ Sb := by have := HP.out.1; omega
                              have hgm : Hid (mv.ownBlock ≠ some g) := fun e => by have := (HP.out.2.2.2.2 _ e).1; omega
                              have HCALL : Hid (∀ W, Below w3.heap.size w3 W → Calls Tryz.prog 28 #[.pointer (some ⟨Sb, 0, none⟩), .int .i64 2] W (NumR w0 Sb ba bn bc M N W q2 0 mv made 2)) := fun W hW => rnum HSS.out W q2 0 mv made 2 (by omega) (HTS3.out.2.1.below hW)
                              have HONEF : Hid (∀ x q4 b4 : Nat, Tr 0 (num N (8 * bn) q2 2) b4 (x, q4) → Tr 0 (oneLen N (8 * bn) (codeOfN ls) q xs) b4 (y, 3 + x, q4)) := fun x q4 b4 h => by
                                have e : oneLen N (8 * bn) (codeOfN ls) q xs = bindE (num N (8 * bn) q2 2) fun v => .ok (y, 3 + v.1, v.2) := by
                                  cases hn : num N (8 * bn) q2 2 with
                                  | error e => rw [one_16e HSN.out HXN.out hn]; rfl
                                  | ok v => rw [one_16 HSN.out HXN.out hn, HLAST.out]; rfl
                                rw [e]
                                refine h.bind ?_
                                exact Tr.ok _ _
                              have HMF : Hid (∀ (w4 : World) (q4 b4 x : Nat), x ≤ 3 → TS w0 Sb ba bn bc M mv made w B Cb (codesT ls) w4 q4 b4 k xs (some ⟨g, o, none⟩) cp → Calls Tryz.prog 51 #[.slice (some ⟨g, o, none⟩) k cp, .int .i64 (y : Int), .int .i64 (3 + (x : Int))] w4 fun e w' => (∃ a' c', e = .returned (.slice a' (k + (3 + x)) c') ∧ Row64 w' B (.slice a' (k + (3 + x)) c') (k + (3 + x)) (xs ++ List.replicate (3 + x) y)) ∧ Below B w4 w') := fun w4 q4 b4 x hx h => by
                                have hm := many_any w4 B (some ⟨g, o, none⟩) k cp xs y (3 + x) (by have := HY15.out; omega) (by omega) h.1 h.2.2.2.2
                                rwa [show ((3 + x : Nat) : Int) = 3 + (x : Int) by omega] at hm
                              clear hi hy hk0
                              go_upto_region 27 with fail
                              apply wp_via_row3 (R := fun (x : Nat) pa pc wx => ∃ q4 b4 : Nat, x ≤ 3 ∧ TS w0 Sb ba bn bc M mv made w B Cb (codesT ls) wx q4 b4 (k + (3 + x)) (xs ++ List.replicate (3 + x) y) pa pc ∧ Tr 0 (oneLen N (8 * bn) (codeOfN ls) q xs) b4 (y, 3 + x, q4))
                              · go_region_with (first
                                  | (go_at_call 28
                                     refine (HCALL.out _ (Below.refl _ _).drew).mono ?_
                                     rintro e w4 ⟨x, q4, b4, rfl, hx, hr4, ht4, htr4⟩
                                     have HTS4 := Lib.hid ((HTS3.out.below HP.out (Below.refl _ _).drew).turn HP.out hr4 ht4)
                                     have HONE := Lib.hid (HONEF.out x q4 b4 htr4)
                                     have hx3 : x ≤ 3 := by
                                       have h8 : (2 : Nat) ^ 2 = 4 := rfl
                                       omega
                                     have hxw : IntKind.i64.wrap (3 + (x : Int)) = 3 + (x : Int) := IntWalk.i64_in _ (by omega)
                                     have kcell := (ht4.after (Below.refl _ _).drew).keeps hcell hgS hgm.out
                                     have hmany := HMF.out w4 q4 b4 x hx3 HTS4.out)
                                  | (go_at_call 51
                                     refine hmany.mono ?_
                                     rintro e w5 ⟨⟨pa, pc, rfl, hrow⟩, hbl⟩
                                     have HTS5 := Lib.hid (HTS4.out.many HP.out hrow hbl)))
                                all_goals exact ⟨x, pa, pc, rfl, q4, b4, hx3, HTS5.out, HONE.out⟩
                              · rintro x pa pc w5 ⟨q4, b4, hx, hts5, hone⟩
                                obtain ⟨t, ht⟩ : ∃ t, 3 + x = t := ⟨_, rfl⟩
                                rw [ht] at hts5 hone
                                rw [ht]
                                have ht9 : t ≤ 200 := by omega
                                have HKT : Hid (k + t ≤ 1000) := by show _ ≤ _; omega
                                have HTS5 := Lib.hid hts5
                                have HONE := Lib.hid hone
                                have c5 := hts5.bad
                                clear hts5 hone ht hx hcell
                                by_cases hov : n < k + t
                                · have hovi : (n : Int) < (k : Int) + (t : Int) := by omega
                                  have HOV : Hid (n - xs.length < t) := by show _ < _; rw [HKL.out]; omega
                                  have hstop : Calls Tryz.prog 29 #[.pointer (some ⟨Sb, 0, none⟩), .int .i64 4] w5 fun e w' => e = .returned (.tuple #[]) ∧ RL w0 Sb ba bn bc M w' q4 (orFour b4) mv made ∧ Turn Sb mv mv w5 w' := rstop w5 q4 b4 mv made 4 HTS5.out.2.1
                                  clear hov
                                  go_wp2_with fail
                                  refine hstop.mono ?_
                                  rintro e w6 ⟨rfl, h1, h2⟩
                                  have HTS6 := Lib.hid (HTS5.out.turn HP.out h1 h2)
                                  have c6 := HTS6.out.bad
                                  clear h1 h2 hstop c5
                                  go_wp2_with fail
                                  go_roundw
                                  case rel => exact ⟨q4, orFour b4, k + t, _, pa, pc, rfl, HTS6.out, (fun z hz => by
                                    rcases List.mem_append.1 hz with h | h
                                    · exact HL15.out z h
                                    · rw [(List.mem_replicate.1 h).2]; exact HY15.out), fun h => absurd h (orFour_ne b4), HKT.out, fun b' z h => HSr.out b' z (by
                                      rw [h.2 (orFour_ne b4)]
                                      exact lens_over hq8 HNK.out HONE.out HOV.out _)⟩
                                  case measure =>
                                    rw [HLEFT.out, leftR_of HTS6.out.2.1.1, if_neg (orFour_ne b4)]
                                    omega
                                · have hovi : ¬ (n : Int) < (k : Int) + (t : Int) := by omega
                                  have HOV : Hid (¬ n - xs.length < t) := by show ¬ _; rw [HKL.out]; omega
                                  have HKN : Hid (k + t ≤ n) := by show _ ≤ _; omega
                                  clear hov
                                  go_wp2_with fail
                                  go_roundw
                                  case rel => exact ⟨q4, b4, k + t, _, pa, pc, rfl, HTS5.out, (fun z hz => by
                                    rcases List.mem_append.1 hz with h | h
                                    · exact HL15.out z h
                                    · rw [(List.mem_replicate.1 h).2]; exact HY15.out), fun _ => ⟨HKN.out, HB7.out⟩, HKT.out, fun b' z h => HSr.out b' z (lens_go hq8 HNK.out HONE.out HOV.out h)⟩
                                  case measure =>
                                    rw [HLEFT.out, leftR_of HTS5.out.2.1.1]
                                    by_cases hz : b4 = 0
                                    · rw [if_pos hz]
                                      have h0 := HONE.out
                                      rw [hz] at h0
                                      have := adv_oneLen h0.live.2
                                      omega
                                    · rw [if_neg hz]; omega
                          · have h16f : ¬ (s : Int) = 16 := by omega
                            by_cases h17 : s = 17
                            · subst h17
                              have hcall := rnum HSS.out w3 q2 0 mv made 3 (by omega) HTS3.out.2.1
                              go_wp2_with fail
                              refine hcall.mono ?_
                              rintro e w4 ⟨x, q4, b4, rfl, hx, hr4, ht4, htr4⟩
                              have HTS4 := Lib.hid (HTS3.out.turn HP.out hr4 ht4)
                              have hx8 : x ≤ 127 := by
                                have h8 : (2 : Nat) ^ 3 ≤ 128 := by decide
                                omega
                              obtain ⟨t, ht⟩ : ∃ t, 3 + x = t := ⟨_, rfl⟩
                              have hti : 3 + (x : Int) = (t : Int) := by omega
                              have HONE : Hid (Tr 0 (oneLen N (8 * bn) (codeOfN ls) q xs) b4 (0, t, q4)) := by
                                have e : oneLen N (8 * bn) (codeOfN ls) q xs = bindE (num N (8 * bn) q2 3) fun v => .ok (0, 3 + v.1, v.2) := by
                                  cases hn : num N (8 * bn) q2 3 with
                                  | error e => rw [one_17e HSN.out hn]; rfl
                                  | ok v => rw [one_17 HSN.out hn]; rfl
                                show Tr _ _ _ _
                                rw [e]
                                refine htr4.bind ?_
                                show Tr b4 (.ok (0, 3 + x, q4)) b4 (0, t, q4)
                                rw [ht]
                                exact Tr.ok _ _
                              have ht9 : t ≤ 200 := by omega
                              have HKT : Hid (k + t ≤ 1000) := by show _ ≤ _; omega
                              have HY15 : Hid ((0 : Nat) ≤ 15) := by show _ ≤ _; omega
                              have hmany := many_any w4 B a k cp xs 0 t (by omega) (by omega) HTS4.out.1 HTS4.out.2.2.2.2
                              clear hcall hr4 ht4 htr4 hx hx8 ht
                              go_wp2_with fail
                              refine hmany.mono ?_
                              rintro e w5 ⟨⟨pa, pc, rfl, hrow⟩, hbl⟩
                              have HTS5 := Lib.hid (HTS4.out.many HP.out hrow hbl)
                              have c5 := HTS5.out.bad
                              clear hmany hrow hbl c4
                              by_cases hov : n < k + t
                              · have hovi : (n : Int) < (k : Int) + (t : Int) := by omega
                                have HOV : Hid (n - xs.length < t) := by show _ < _; rw [HKL.out]; omega
                                have hstop : Calls Tryz.prog 29 #[.pointer (some ⟨Sb, 0, none⟩), .int .i64 4] w5 fun e w' => e = .returned (.tuple #[]) ∧ RL w0 Sb ba bn bc M w' q4 (orFour b4) mv made ∧ Turn Sb mv mv w5 w' := rstop w5 q4 b4 mv made 4 HTS5.out.2.1
                                clear hov
                                go_wp2_with fail
                                refine hstop.mono ?_
                                rintro e w6 ⟨rfl, h1, h2⟩
                                have HTS6 := Lib.hid (HTS5.out.turn HP.out h1 h2)
                                have c6 := HTS6.out.bad
                                clear h1 h2 hstop c5
                                go_wp2_with fail
                                go_roundw
                                case rel => exact ⟨q4, orFour b4, k + t, _, pa, pc, rfl, HTS6.out, (fun z hz => by
                                  rcases List.mem_append.1 hz with h | h
                                  · exact HL15.out z h
                                  · rw [(List.mem_replicate.1 h).2]; exact HY15.out), fun h => absurd h (orFour_ne b4), HKT.out, fun b' z h => HSr.out b' z (by
                                    rw [h.2 (orFour_ne b4)]
                                    exact lens_over hq8 HNK.out HONE.out HOV.out _)⟩
                                case measure =>
                                  rw [HLEFT.out, leftR_of HTS6.out.2.1.1, if_neg (orFour_ne b4)]
                                  omega
                              · have hovi : ¬ (n : Int) < (k : Int) + (t : Int) := by omega
                                have HOV : Hid (¬ n - xs.length < t) := by show ¬ _; rw [HKL.out]; omega
                                have HKN : Hid (k + t ≤ n) := by show _ ≤ _; omega
                                clear hov
                                go_wp2_with fail
                                go_roundw
                                case rel => exact ⟨q4, b4, k + t, _, pa, pc, rfl, HTS5.out, (fun z hz => by
                                  rcases List.mem_append.1 hz with h | h
                                  · exact HL15.out z h
                                  · rw [(List.mem_replicate.1 h).2]; exact HY15.out), fun _ => ⟨HKN.out, HB7.out⟩, HKT.out, fun b' z h => HSr.out b' z (lens_go hq8 HNK.out HONE.out HOV.out h)⟩
                                case measure =>
                                  rw [HLEFT.out, leftR_of HTS5.out.2.1.1]
                                  by_cases hz : b4 = 0
                                  · rw [if_pos hz]
                                    have h0 := HONE.out
                                    rw [hz] at h0
                                    have := adv_oneLen h0.live.2
                                    omega
                                  · rw [if_neg hz]; omega
                            · have h17f : ¬ (s : Int) = 17 := by omega
                              obtain rfl : s = 18 := by omega
                              have hcall := rnum HSS.out w3 q2 0 mv made 7 (by omega) HTS3.out.2.1
                              go_wp2_with fail
                              refine hcall.mono ?_
                              rintro e w4 ⟨x, q4, b4, rfl, hx, hr4, ht4, htr4⟩
                              have HTS4 := Lib.hid (HTS3.out.turn HP.out hr4 ht4)
                              have hx8 : x ≤ 127 := by
                                have h8 : (2 : Nat) ^ 7 ≤ 128 := by decide
                                omega
                              obtain ⟨t, ht⟩ : ∃ t, 11 + x = t := ⟨_, rfl⟩
                              have hti : 11 + (x : Int) = (t : Int) := by omega
                              have HONE : Hid (Tr 0 (oneLen N (8 * bn) (codeOfN ls) q xs) b4 (0, t, q4)) := by
                                have e : oneLen N (8 * bn) (codeOfN ls) q xs = bindE (num N (8 * bn) q2 7) fun v => .ok (0, 11 + v.1, v.2) := by
                                  cases hn : num N (8 * bn) q2 7 with
                                  | error e => rw [one_18e HSN.out hn]; rfl
                                  | ok v => rw [one_18 HSN.out hn]; rfl
                                show Tr _ _ _ _
                                rw [e]
                                refine htr4.bind ?_
                                show Tr b4 (.ok (0, 11 + x, q4)) b4 (0, t, q4)
                                rw [ht]
                                exact Tr.ok _ _
                              have ht9 : t ≤ 200 := by omega
                              have HKT : Hid (k + t ≤ 1000) := by show _ ≤ _; omega
                              have HY15 : Hid ((0 : Nat) ≤ 15) := by show _ ≤ _; omega
                              have hmany := many_any w4 B a k cp xs 0 t (by omega) (by omega) HTS4.out.1 HTS4.out.2.2.2.2
                              clear hcall hr4 ht4 htr4 hx hx8 ht
                              go_wp2_with fail
                              refine hmany.mono ?_
                              rintro e w5 ⟨⟨pa, pc, rfl, hrow⟩, hbl⟩
                              have HTS5 := Lib.hid (HTS4.out.many HP.out hrow hbl)
                              have c5 := HTS5.out.bad
                              clear hmany hrow hbl c4
                              by_cases hov : n < k + t
                              · have hovi : (n : Int) < (k : Int) + (t : Int) := by omega
                                have HOV : Hid (n - xs.length < t) := by show _ < _; rw [HKL.out]; omega
                                have hstop : Calls Tryz.prog 29 #[.pointer (some ⟨Sb, 0, none⟩), .int .i64 4] w5 fun e w' => e = .returned (.tuple #[]) ∧ RL w0 Sb ba bn bc M w' q4 (orFour b4) mv made ∧ Turn Sb mv mv w5 w' := rstop w5 q4 b4 mv made 4 HTS5.out.2.1
                                clear hov
                                go_wp2_with fail
                                refine hstop.mono ?_
                                rintro e w6 ⟨rfl, h1, h2⟩
                                have HTS6 := Lib.hid (HTS5.out.turn HP.out h1 h2)
                                have c6 := HTS6.out.bad
                                clear h1 h2 hstop c5
                                go_wp2_with fail
                                go_roundw
                                case rel => exact ⟨q4, orFour b4, k + t, _, pa, pc, rfl, HTS6.out, (fun z hz => by
                                  rcases List.mem_append.1 hz with h | h
                                  · exact HL15.out z h
                                  · rw [(List.mem_replicate.1 h).2]; exact HY15.out), fun h => absurd h (orFour_ne b4), HKT.out, fun b' z h => HSr.out b' z (by
                                    rw [h.2 (orFour_ne b4)]
                                    exact lens_over hq8 HNK.out HONE.out HOV.out _)⟩
                                case measure =>
                                  rw [HLEFT.out, leftR_of HTS6.out.2.1.1, if_neg (orFour_ne b4)]
                                  omega
                              · have hovi : ¬ (n : Int) < (k : Int) + (t : Int) := by omega
                                have HOV : Hid (¬ n - xs.length < t) := by show ¬ _; rw [HKL.out]; omega
                                have HKN : Hid (k + t ≤ n) := by show _ ≤ _; omega
                                clear hov
                                go_wp2_with fail
                                go_roundw
                                case rel => exact ⟨q4, b4, k + t, _, pa, pc, rfl, HTS5.out, (fun z hz => by
                                  rcases List.mem_append.1 hz with h | h
                                  · exact HL15.out z h
                                  · rw [(List.mem_replicate.1 h).2]; exact HY15.out), fun _ => ⟨HKN.out, HB7.out⟩, HKT.out, fun b' z h => HSr.out b' z (lens_go hq8 HNK.out HONE.out HOV.out h)⟩
                                case measure =>
                                  rw [HLEFT.out, leftR_of HTS5.out.2.1.1]
                                  by_cases hz : b4 = 0
                                  · rw [if_pos hz]
                                    have h0 := HONE.out
                                    rw [hz] at h0
                                    have := adv_oneLen h0.live.2
                                    omega
                                  · rw [if_neg hz]; omega
                      · have hv := hv1 hb2
                        subst hv
                        have hbi : ((b2 : Int) != 0) = true := by simp; omega
                        have hbj : ¬ ((b2 : Int) = 0) := by omega
                        have hkj : ¬ (n : Int) < (k : Int) := by omega
                        have HB2 := Lib.hid hb2
                        clear hb2 hv0 hv1
                        go_wp2_with fail
                        go_roundw
                        case rel => exact ⟨q2, b2, k, xs, a, cp, rfl, HTS3.out, HL15.out, fun h => absurd h HB2.out, hk9, fun b' y h => HSr.out b' y (by
                          rw [h.2 HB2.out]
                          have h1 : signN N (8 * bn) (codeOfN ls) q = .error b2 := by
                            rcases HTR3.out.1 rfl with ⟨e, -⟩ | ⟨-, e⟩
                            · exact absurd e HB2.out
                            · exact e
                          rw [lensAt_err hq8 HNK.out (one_err h1)]
                          exact Tr.err 0 b2 HB2.out _)⟩
                        case measure =>
                          rw [HLEFT.out, leftR_of HTS3.out.2.1.1, if_neg HB2.out]
                          omega
                  · as_aux_lemma =>
                      have hki : ¬ (k : Int) < (n : Int) := by omega
                      have hkn2 : k = n := by omega
                      subst hkn2
                      have HXX := Lib.hid (HX7.out HB7.out).1
                      have HLE : Hid (Tr b7 (lensN N (8 * bn) (codeOfN ls) k r) 0 (q, xs)) := HSr.out 0 (q, xs) (by
                        rw [lensAt_end hq8 (by rw [HKL.out]; exact Nat.le_refl _)]
                        exact Tr.ok _ _)
                      have HK8 : Hid (∀ b' y, Tr 0 (tl5 N (8 * bn) M.toNat made (x1 + 257) (x2 + 1) (q, xs)) b' y → Tr bad R b' y) := fun b' y h => HK7.out b' y (by
                        rw [tl4, HN.out]
                        exact HLE.out.bind h)
                      obtain ⟨n1, hn1⟩ : ∃ n1, x1 + 257 = n1 := ⟨_, rfl⟩
                      obtain ⟨m, hm⟩ : ∃ m, x2 + 1 = m := ⟨_, rfl⟩
                      have hn1i : (x1 : Int) + 257 = (n1 : Int) := by omega
                      have hkm : n1 + m = k := by have := HN.out; omega
                      rw [hn1, hm] at HK8
                      have hn1b : n1 ≤ 300 := by omega
                      have hn1c : 257 ≤ n1 := by omega
                      have hmb : m ≤ 32 := by omega
                      have hm1 : 1 ≤ m := by omega
                      obtain ⟨g, o, hag, -⟩ := HTS.out.1.nums.1.2 0 (by omega)
                      have hgB := HTS.out.1.nums.2 g o hag
                      have hkc := HTS.out.1.cap
                      have hs1 := fun W => slice_to_i a k cp n1 (by omega) W
                      have hs2 := fun W => slice_from_i a k cp n1 (by omega) hkc W
                      obtain ⟨ay, hay⟩ : ∃ ay, subA a cp n1 = ay := ⟨_, rfl⟩
                      obtain ⟨cm, hcm⟩ : ∃ cm, cp - n1 = cm := ⟨_, rfl⟩
                      have hmcm : m ≤ cm := by omega
                      rw [hay, hcm, show k - n1 = m by omega] at hs2
                      obtain ⟨X, hX⟩ : ∃ X, xs.take n1 = X := ⟨_, rfl⟩
                      obtain ⟨Y, hY⟩ : ∃ Y, xs.drop n1 = Y := ⟨_, rfl⟩
                      have HNX : Hid (∀ W, NumsAt W a k xs → NumsAt W a n1 X ∧ NumsAt W ay m Y) := fun W h => by
                        rw [← hX, ← hY, ← hay, show m = k - n1 by omega]
                        exact ⟨h.take n1 (by omega), h.drop hkc n1 (by omega)⟩
                      have HX15 : Hid (∀ i, X.getD i 0 ≤ 15) := fun i => by
                        by_cases hi : i < X.length
                        · rw [List.getD_eq_getElem?_getD, List.getElem?_eq_getElem hi]
                          exact HL15.out _ (List.mem_of_mem_take (by rw [hX]; exact List.getElem_mem hi))
                        · rw [List.getD_eq_getElem?_getD, List.getElem?_eq_none (by omega)]; simp
                      have HY15 : Hid (∀ i, Y.getD i 0 ≤ 15) := fun i => by
                        by_cases hi : i < Y.length
                        · rw [List.getD_eq_getElem?_getD, List.getElem?_eq_getElem hi]
                          exact HL15.out _ (List.mem_of_mem_drop (by rw [hY]; exact List.getElem_mem hi))
                        · rw [List.getD_eq_getElem?_getD, List.getElem?_eq_none (by omega)]; simp
                      have HXL : Hid (X.length = n1) := by
                        show _ = _
                        rw [← hX, List.length_take, HKL.out]; omega
                      have HYL : Hid (Y.length = m) := by
                        show _ = _
                        rw [← hY, List.length_drop, HKL.out]; omega
                      obtain ⟨z, hz⟩ : ∃ z, X.getD 256 0 = z := ⟨_, rfl⟩
                      obtain ⟨D, hD⟩ : ∃ D, (decide (z = 0) || !(goodN (codeOfN X)) || !(goodN (codeOfN Y) || decide ((codeOfN Y).sg = []))) = D := ⟨_, rfl⟩
                      have HDD := Lib.hid hD
                      have HZZ := Lib.hid hz
                      have HT5 : Hid (tl5 N (8 * bn) M.toNat made n1 m (q, xs) = if D then .error 4 else signsN N (8 * bn) M.toNat (signN N (8 * bn) (codeOfN X)) (signN N (8 * bn) (codeOfN Y)) q made) := by
                        show _ = _
                        unfold tl5
                        simp only []
                        rw [hX, hY]
                        have hz2 : xs.getD 256 0 = z := by rw [← hz, ← hX, getD_take0 _ _ _ (by omega)]
                        rw [hz2]
                        by_cases hD1 : D = true
                        · rw [if_pos hD1, if_pos]
                          rw [hD1] at hD
                          rw [Bool.or_eq_true, Bool.or_eq_true] at hD
                          rcases hD with (h | h) | h
                          · exact .inl (of_decide_eq_true h)
                          · exact .inr (.inl (by simpa using h))
                          · simp only [Bool.not_eq_true', Bool.or_eq_false_iff, decide_eq_false_iff_not] at h
                            exact .inr (.inr h)
                        · rw [if_neg hD1, if_neg]
                          have hD2 : D = false := by simpa using hD1
                          rw [hD2] at hD
                          rw [Bool.or_eq_false_iff, Bool.or_eq_false_iff] at hD
                          obtain ⟨⟨h1, h2⟩, h3⟩ := hD
                          rintro (h | h | ⟨h4, h5⟩)
                          · exact absurd h (of_decide_eq_false h1)
                          · rw [h] at h2; cases h2
                          · rw [h4] at h3; simp [h5] at h3
                      have hn1w : (256 : Int) < (n1 : Int) := by omega
                      clear hn1 hm hag hay hcm hX hY hD hz hni
                      go_wp2_with fail
                      go_quiet (fail)
                      have HTSd : Hid (TS w0 Sb ba bn bc M mv made w B Cb (codesT ls) (wr.drewN nq) q 0 k xs a cp) := HTS.out.below HP.out (below_drewN wr nq)
                      clear c4 hs1 hs2 HTS
                      generalize wr.drewN nq = wz at *
                      obtain ⟨HNX1, HNY1⟩ := HNX.out wz HTSd.out.1.nums.1
                      have HNXW := Lib.hid HNX1
                      have HNYW := Lib.hid HNY1
                      obtain ⟨gx, ox, hax, hcx⟩ := HNX1.2 256 (by omega)
                      subst hax
                      have hcx2 : wz.cell? ⟨gx, ox + 256, none⟩ = some (.int .i64 (z : Int)) := by rw [hcx, HZZ.out]
                      clear HNX1 HNY1 hcx HNX
                      go_upto_region 34 with fail
                      go_cut [160] from 16 (fun v wx => wx = wz ∧ v = .bool D)
                      case first =>
                        by_cases hz0 : z = 0
                        · have hzi : ((z : Int) == 0) = true := by simp; omega
                          have hzj : (z : Int) = 0 := by omega
                          have HD : Hid (D = true) := by
                            show _ = _
                            rw [← HDD.out, hz0]; rfl
                          clear hz0
                          go_wp2_with fail
                          go_meet
                          rw [HD.out]
                          exact ⟨rfl, rfl⟩
                        · have hzi : ((z : Int) == 0) = false := by simp; omega
                          have hzj : ¬ (z : Int) = 0 := by omega
                          have hgx := rgood_any wz (some ⟨gx, ox, none⟩) n1 cp X false (by omega) (by omega) HNXW.out HX15.out
                          rw [good_same HX15.out] at hgx
                          cases hg1 : goodN (codeOfN X) with
                          | false =>
                            rw [hg1] at hgx
                            have HD : Hid (D = true) := by
                              show _ = _
                              rw [← HDD.out, hg1]; simp
                            clear hz0
                            go_wp2_with fail
                            refine hgx.mono ?_
                            rintro e w7 ⟨rfl, rfl⟩
                            go_wp2_with fail
                            go_meet
                            rw [HD.out]
                            exact ⟨rfl, rfl⟩
                          | true =>
                            rw [hg1] at hgx
                            have hgy := rgood_any wz ay m cm Y true hmcm (by omega) HNYW.out HY15.out
                            rw [good_none HY15.out] at hgy
                            obtain ⟨E, hE⟩ : ∃ E, (goodN (codeOfN Y) || decide ((codeOfN Y).sg = [])) = E := ⟨_, rfl⟩
                            have HD : Hid (D = !E) := by
                              show _ = _
                              rw [← HDD.out, hg1, hE, decide_eq_false hz0]; simp
                            rw [hE] at hgy
                            clear hz0 hE
                            cases E with
                            | true =>
                              go_wp2_with fail
                              refine hgx.mono ?_
                              rintro e w7 ⟨rfl, rfl⟩
                              go_wp2_with fail
                              refine hgy.mono ?_
                              rintro e w7 ⟨rfl, rfl⟩
                              go_wp2_with fail
                              go_meet
                              rw [HD.out]
                              exact ⟨rfl, rfl⟩
                            | false =>
                              go_wp2_with fail
                              refine hgx.mono ?_
                              rintro e w7 ⟨rfl, rfl⟩
                              go_wp2_with fail
                              refine hgy.mono ?_
                              rintro e w7 ⟨rfl, rfl⟩
                              go_wp2_with fail
                              go_meet
                              rw [HD.out]
                              exact ⟨rfl, rfl⟩
                      case rest =>
                        obtain ⟨rfl, rfl⟩ := hcut
                        clear hcx2
                        cases D with
                        | true =>
                          have hstop : Calls Tryz.prog 29 #[.pointer (some ⟨Sb, 0, none⟩), .int .i64 4] wc fun e w' => e = .returned (.tuple #[]) ∧ RL w0 Sb ba bn bc M w' q 4 mv made ∧ Turn Sb mv mv wc w' := rstop wc q 0 mv made 4 HTSd.out.2.1
                          have HFIN : Hid (Tr bad R 4 (q, made)) := HK8.out _ _ (by
                            rw [HT5.out, if_pos rfl]
                            exact Tr.err 0 4 (by omega) _)
                          go_wp2_with fail
                          refine hstop.mono ?_
                          rintro e w8 ⟨rfl, h1, h2⟩
                          have HR8 := Lib.hid h1
                          have HT8 := Lib.hid (HTSd.out.2.2.1.trans h2)
                          clear h1 h2 hstop
                          go_wp2_with fail
                          go_end0
                          exact ⟨rfl, q, 4, mv, made, HR8.out, HT8.out, HFIN.out⟩
                        | false =>
                          have HGX : Hid (goodN (codeOfN X) = true ∧ (goodN (codeOfN Y) = true ∨ (codeOfN Y).sg = [])) := by
                            show _ ∧ _
                            have hD := HDD.out
                            rw [Bool.or_eq_false_iff, Bool.or_eq_false_iff] at hD
                            obtain ⟨⟨h1, h2⟩, h3⟩ := hD
                            refine ⟨by simpa using h2, ?_⟩
                            simp only [Bool.not_eq_false', Bool.or_eq_true, decide_eq_true_eq] at h3
                            exact h3
                          go_wp2_with fail
                          go_loopw [14, 15] (fun vs vi wy => ∃ i : Nat, vi = .int .i64 (i : Int) ∧ i ≤ m ∧ vs = .bool ((Y.take i).any (fun y => decide (0 < y))) ∧ wy = wc) (fun _ vi _ => m - (intOf vi).toNat)
                          case atStart => exact ⟨0, rfl, Nat.zero_le _, rfl, rfl⟩
                          case round =>
                            obtain ⟨i, rfl, hi, rfl, rfl⟩ := hrel
                            obtain ⟨sm, hsm⟩ : ∃ sm, (Y.take i).any (fun y => decide (0 < y)) = sm := ⟨_, rfl⟩
                            have HSM := Lib.hid hsm
                            rw [hsm]
                            clear hsm
                            by_cases hlt : i < m
                            · have hli : (i : Int) < (m : Int) := by omega
                              have hi0 : (0 : Int) ≤ (i : Int) := by omega
                              obtain ⟨gy, oy, hay, hcy⟩ := HNYW.out.2 i hlt
                              obtain ⟨v, hv⟩ : ∃ v, Y.getD i 0 = v := ⟨_, rfl⟩
                              have HV := Lib.hid hv
                              rw [hv] at hcy
                              subst hay
                              have HNEXT : Hid ((Y.take (i + 1)).any (fun y => decide (0 < y)) = (sm || decide (0 < v))) := by
                                show _ = _
                                rw [take_snoc Y i (by rw [HYL.out]; exact hlt), List.any_append, HSM.out, hv]
                                simp
                              clear hv
                              cases sm with
                              | true =>
                                go_wp2_with fail
                                go_roundw
                                case rel => exact ⟨i + 1, by go_num, by omega, by rw [HNEXT.out]; rfl, trivial⟩
                                case measure => simp [intOf]; omega
                              | false =>
                                go_wp2_with fail
                                go_roundw
                                case rel => exact ⟨i + 1, by go_num, by omega, by rw [HNEXT.out]; rfl, trivial⟩
                                case measure => simp [intOf]; omega
                            · have hli : ¬ (i : Int) < (m : Int) := by omega
                              have HSM2 : Hid (sm = Y.any (fun y => decide (0 < y))) := by
                                show _ = _
                                rw [← HSM.out, List.take_of_length_le (by rw [HYL.out]; omega)]
                              have hcX := codes_any wr (some ⟨gx, ox, none⟩) n1 cp X (by omega) (by omega) HNXW.out
                              clear HSM
                              go_wp2_with fail
                              refine hcX.mono ?_
                              rintro e w9 ⟨rfl, hrX, hbX⟩
                              have HNY9 := Lib.hid (HNYW.out.below hbX)
                              have HTS9 := Lib.hid (HTSd.out.below HP.out hbX)
                              have HRX := Lib.hid hrX
                              have hcY := codes_any w9 ay m cm Y hmcm (by omega) HNY9.out
                              have hXlt : wr.heap.size < w9.heap.size := (Array.getElem?_eq_some_iff.1 hrX).1
                              clear hcX hrX hbX
                              go_wp2_with fail
                              refine hcY.mono ?_
                              rintro e w10 ⟨rfl, hrY, hbY⟩
                              have HTS10 := Lib.hid (HTS9.out.below HP.out hbY)
                              have HCX : Hid (CodeRow w10 wr.heap.size (codesT X)) := (hbY.block _ hXlt).trans HRX.out
                              have HCY : Hid (CodeRow w10 w9.heap.size (codesT Y)) := hrY
                              have hBw := HTSd.out.2.2.2.2
                              have hP1 := HP.out.1
                              have hne : ∀ j, B ≤ j → mv.ownBlock ≠ some j := fun j hj e => by have := (HP.out.2.2.2.2 _ e).1; omega
                              have hsg := rsigns HSS.out (codesT X) (codesT Y) (codesT_mem X) (codesT_mem Y) n1 m (by rw [codesT_len, HXL.out]) (by rw [codesT_len, HYL.out]) (by omega) (by omega) sm wr.heap.size w9.heap.size (by omega) (by omega) w10 q 0 mv made (hne _ (by omega)) (hne _ (by omega)) HCX.out HCY.out HTS10.out.2.1
                              have e1 : signR N (8 * bn) (codesT X) = signN N (8 * bn) (codeOfN X) := funext fun p => sign_same HX15.out HGX.out.1 _ _ p
                              have e2 : farR N (8 * bn) (codesT Y) sm = signN N (8 * bn) (codeOfN Y) := funext fun p => far_same HY15.out sm HSM2.out HGX.out.2 _ _ p
                              rw [e1, e2] at hsg
                              clear hcY hrY hbY e1 e2 hne hP1
                              go_wp2_with fail
                              refine hsg.mono ?_
                              rintro e w11 ⟨rfl, q11, b11, mv11, m11, hr11, ht11, htr11⟩
                              have HR11 := Lib.hid hr11
                              have HT11 := Lib.hid (HTS10.out.2.2.1.trans ht11)
                              have HTR11 : Hid (Tr bad R b11 (q11, m11)) := HK8.out _ _ (by
                                rw [HT5.out, if_neg (by simp)]
                                exact htr11)
                              clear hr11 ht11 htr11 hsg
                              go_wp2_with fail
                              go_end0
                              exact ⟨rfl, q11, b11, mv11, m11, HR11.out, HT11.out, HTR11.out⟩
                · have hbi : ((b : Int) == 0) = false := by simp; omega
                  have hbj : ¬ ((b : Int) = 0) := by omega
                  have hbm : ((b : Int) != 0) = true := by simp; omega
                  have HB0 := Lib.hid hb0
                  have HFIN : Hid (∀ y, Tr bad R b y) := fun y => HK7.out b y (by
                    rw [tl4, HN.out]
                    exact (HSr.out b (q, xs) (Tr.dead HB0.out _ _)).bind (Tr.dead HB0.out _ _))
                  clear hb0
                  go_wp2_with fail
                  go_end0
                  exact ⟨rfl, q, b, mv, made, HTS.out.2.1, HTS.out.2.2.1, HFIN.out _⟩
end
end Go.Proofs.YtglgchjkonjpiaaGreatDoor
