/- The document's Raw. -/
import Derived.Test.YtglgchjkonjpiaaGreatDoorRefD
import Derived.Test.YtglgchjkonjpiaaGreatDoorRefToldX
import Derived.Deep.CutBlock
import Derived.BigQuiet
namespace Go.Proofs.YtglgchjkonjpiaaGreatDoor
open Go.RowKit Plain
set_option linter.unusedVariables false
theorem RawQ.drewN {w w' : World} {most : Nat} {bs : List Int} {e : Ending} (h : RawQ w most bs e w') (n : Nat) : RawQ w most bs e (w'.drewN n) := by
  obtain ⟨q, m, va, vc, h1, h2, h3, h4, h5, h6⟩ | ⟨k, h1, h2, h3, h4⟩ := h
  · exact .inl ⟨q, m, va, vc, h1, h2, h3.below (below_drewN w' n), h4, h5.trans ((below_drewN w' n).mono h5.size), h6.below (below_drewN w' n)⟩
  · exact .inr ⟨k, h1, h2, h3, h4.trans ((below_drewN w' n).mono h4.size)⟩
theorem rl_start (w : World) (a : Option Addr) (n c : Nat) (M : Int) : RL w w.heap.size a n c M (w.alloc (.cells #[.slice a n c, .int .i64 0, .slice none 0 0, .int .i64 M, .int .i64 0] 55)) 0 0 (.slice none 0 0) [] :=
  ⟨heap_alloc_new w _, Nat.zero_le _, Mid.nil _ _, by simp [Value.ownBlock], (Below.refl _ _).alloc (Nat.le_refl _) _, Nat.le_refl _, Nat.zero_le _, by simp⟩
set_option maxRecDepth 100000 in
set_option maxHeartbeats 64000000 in
theorem rraw_row (a : Option Addr) (n c : Nat) (bs : List Int) (M : Int) (most : Nat) (w : World) (H : RowB w a n c bs) (hn : n ≤ 1000000000) (hM : most = M.toNat) (hm : M ≤ 1000000000) :
    Calls Tryz.prog 14 #[.slice a n c, .int .i64 M] w (RawQ w most bs) := by
  have hl := H.len
  have HSS : Hid (SrcW w a n M (streamN bs) bs) := ⟨H.bytes, hn, hm, rfl⟩
  have HB8 : Hid (∀ x ∈ bs, 0 ≤ x ∧ x ≤ 255) := fun x hx => by
    obtain ⟨j, hj, rfl⟩ := List.mem_iff_getElem.1 hx
    have := H.range j
    rwa [List.getElem?_eq_getElem hj] at this
  have HLN := Lib.hid hl
  have HMM := Lib.hid hM
  have HR0 := Lib.hid (rl_start w a n c M)
  obtain ⟨R, hR⟩ : ∃ R, rawOf bs most = R := ⟨_, rfl⟩
  have HRR : Hid (rawAt bs (streamN bs) M.toNat 0 [] = R) := by
    show _ = _
    rw [← hM, ← rawOf_at]; exact hR
  have HW : Hid (∀ mv w', Turn w.heap.size (.slice none 0 0) mv (w.alloc (.cells #[.slice a n c, .int .i64 0, .slice none 0 0, .int .i64 M, .int .i64 0] 55)) w' → Below w.heap.size w w') := fun mv w' h => h.whole
  clear H hl hM
  go_enter Tryz.func14, Tryz.ntmps14
  go_upto_block 0 with fail
  generalize w.alloc (.cells #[.slice a n c, .int .i64 0, .slice none 0 0, .int .i64 M, .int .i64 0] 55) = w1 at *
  obtain ⟨Sb, hSb⟩ : ∃ B, w.heap.size = B := ⟨_, rfl⟩
  have HSB := Lib.hid hSb
  rw [hSb] at HR0 HW
  rw [hSb]
  clear hSb
  have hM9 : M ≤ 1000000000 := hm
  go_cut [] from 18 (fun wx => ∃ (q b : Nat) (m : List Int) (mv : Value), RL w Sb a n c M wx q b mv m ∧ Turn Sb (.slice none 0 0) mv w1 wx ∧ Tr 0 R b (q, m))
  case first =>
    go_wp2_with fail
    go_loopw [] (fun wr => ∃ (q b : Nat) (m : List Int) (mv1 : Value), RL w Sb a n c M wr q b mv1 m ∧ Turn Sb (.slice none 0 0) mv1 w1 wr ∧ ∀ b' y, Tr b (rawAt bs (streamN bs) M.toNat q m) b' y → Tr 0 R b' y) (fun wr => leftR Sb n wr)
    case atStart => exact ⟨0, 0, [], .slice none 0 0, HR0.out, Turn.refl _ _ _, fun b' y h => by rw [HRR.out] at h; exact h⟩
    case round =>
      obtain ⟨q, b, m, mv1, hr, ht, hk⟩ := hrel
      have HRr := Lib.hid hr
      have HTr := Lib.hid ht
      have HK := Lib.hid hk
      have HLEFT := Lib.hid (leftR_of hr.1)
      have hq8 := hr.2.1
      obtain ⟨-, -, -, -, c4⟩ := rs_cells hr.1
      clear hr ht hk HR0
      by_cases hb0 : b = 0
      · subst hb0
        rw [if_pos rfl] at HLEFT
        have HKE : Hid (∀ b' y, Tr 0 (bindE (num (streamN bs) (8 * n) q 1) (rw1 bs (streamN bs) M.toNat m)) b' y → Tr 0 R b' y) := fun b' y h => HK.out b' y (by
          have hl := HLN.out
          rw [raw_eq (by rw [hl]; exact hq8), hl]; exact h)
        have hcall := rbit HSS.out wr q 0 mv1 m HRr.out
        go_wp2_with fail
        refine hcall.mono ?_
        rintro e w3 ⟨x1, q1, b1, rfl, hx1, hr3, ht3, htr3⟩
        have HTR3 := Lib.hid htr3
        have HT3 := Lib.hid (HTr.out.trans ht3)
        have hcall2 := rnum HSS.out w3 q1 b1 mv1 m 2 (by omega) hr3
        clear hcall hr3 ht3 htr3 c4 HRr HTr HK
        go_wp2_with fail
        refine hcall2.mono ?_
        rintro e w4 ⟨x2, q2, b2, rfl, hx2, hr4, ht4, htr4⟩
        have HTR4 := Lib.hid htr4
        have HR4 := Lib.hid hr4
        have HT4 := Lib.hid (HT3.out.trans ht4)
        have hq28 := hr4.2.1
        have hx1b : x1 ≤ 1 := by have h2 : (2 : Nat) ^ 1 = 2 := rfl
                                 omega
        have hx2b : x2 ≤ 3 := by have h2 : (2 : Nat) ^ 2 = 4 := rfl
                                 omega
        clear hcall2 hr4 ht4 htr4 HT3
        go_upto_block 2 with fail
        go_cut [] from 18 to 90 (fun wx => ∃ (q3 b3 : Nat) (m3 : List Int) (mv3 : Value), RL w Sb a n c M wx q3 b3 mv3 m3 ∧ Turn Sb (.slice none 0 0) mv3 w1 wx ∧ Tr b2 (blockN bs (streamN bs) (8 * n) M.toNat x2 q2 m) b3 (q3, m3))
        case first =>
          by_cases k0 : x2 = 0
          · subst k0
            rw [show ((0 : Nat) : Int) = 0 from rfl]
            have HBN : Hid (blockN bs (streamN bs) (8 * n) M.toNat 0 q2 m = bindE (num (streamN bs) (8 * n) (8 * ((q2 + 7) / 8)) 16) (st1 (streamN bs) (8 * n) M.toNat m)) := by
              show _ = _
              unfold blockN
              rw [if_pos rfl, ← HLN.out]
              exact stored_eq bs HB8.out _ _ _
            go_upto_block 3 with fail
            go_cut [] from 18 to 90 (fun wx => ∃ p1 : Nat, RL w Sb a n c M wx p1 b2 mv1 m ∧ Turn Sb mv1 mv1 w4 wx ∧ (b2 = 0 → p1 = 8 * ((q2 + 7) / 8)))
            case first =>
              go_wp2_with fail
              go_loopw [] (fun wz => ∃ p1 : Nat, RL w Sb a n c M wz p1 b2 mv1 m ∧ Turn Sb mv1 mv1 w4 wz ∧ (b2 = 0 → q2 ≤ p1 ∧ p1 ≤ 8 * ((q2 + 7) / 8))) (fun wz => leftR Sb n wz)
              case atStart => exact ⟨q2, HR4.out, Turn.refl _ _ _, fun _ => ⟨Nat.le_refl _, by omega⟩⟩
              case round =>
                obtain ⟨p1, hr, ht, hp⟩ := hrel
                have HRz := Lib.hid hr
                have HTz := Lib.hid ht
                have HPz := Lib.hid hp
                have HLz := Lib.hid (leftR_of hr.1)
                obtain ⟨-, c1, -, -, c4⟩ := rs_cells hr.1
                obtain ⟨j, hj⟩ : ∃ j, p1 % 8 = j := ⟨_, rfl⟩
                have hji : (p1 : Int) % 8 = (j : Int) := by omega
                have hp9 : (p1 : Int) ≤ 8000000000 := by have := hr.2.1; omega
                have HJ := Lib.hid hj
                clear hr ht hp hj
                by_cases hj0 : j = 0
                · subst hj0
                  have HEND : Hid (b2 = 0 → p1 = 8 * ((q2 + 7) / 8)) := fun h0 => by
                    have h1 := HPz.out h0
                    have h2 := HJ.out
                    omega
                  go_wp2_with fail
                  go_meet
                  exact ⟨p1, HRz.out, HTz.out, HEND.out⟩
                · have hjn : ((j : Int) != 0) = true := by simp; omega
                  have hjn2 : ¬ (j : Int) = 0 := by omega
                  by_cases hb2 : b2 = 0
                  · subst hb2
                    have hbb := rbit HSS.out wr p1 0 mv1 m HRz.out
                    have HPP : Hid (p1 + 1 ≤ 8 * n ∧ q2 ≤ p1 ∧ p1 + 1 ≤ 8 * ((q2 + 7) / 8)) := by
                      have h1 := HPz.out rfl
                      have h2 := HJ.out
                      refine ⟨by omega, h1.1, by omega⟩
                    clear hj0
                    go_wp2_with fail
                    refine hbb.mono ?_
                    rintro e w5 ⟨x5, q5, b5, rfl, hx5, hr5, ht5, htr5⟩
                    have hq5 : b5 = 0 ∧ q5 = p1 + 1 := by
                      rcases htr5.1 rfl with ⟨e1, e2⟩ | ⟨e1, e2⟩
                      · exact ⟨e1, (num_ok e2).2.1⟩
                      · unfold num at e2
                        rw [if_pos HPP.out.1] at e2
                        cases e2
                    obtain ⟨rfl, rfl⟩ := hq5
                    have HR5 := Lib.hid hr5
                    have HT5 := Lib.hid (HTz.out.trans ht5)
                    clear hr5 ht5 htr5 hbb
                    go_wp2_with fail
                    go_roundw
                    case rel => exact ⟨p1 + 1, HR5.out, HT5.out, fun _ => ⟨by have := HPP.out; omega, HPP.out.2.2⟩⟩
                    case measure =>
                      rw [HLz.out, leftR_of HR5.out.1]
                      simp only [if_true]
                      have := HPP.out
                      omega
                  · have hbi : ((b2 : Int) == 0) = false := by simp; omega
                    have hbj : ¬ ((b2 : Int) = 0) := by omega
                    have HB2 := Lib.hid hb2
                    clear hb2
                    go_wp2_with fail
                    go_meet
                    exact ⟨p1, HRz.out, HTz.out, fun h => absurd h HB2.out⟩
            case rest =>
              obtain ⟨p1, hr5, ht5, hp5⟩ := hcut
              have HT5 := Lib.hid ht5
              have HKA : Hid (∀ b' y, Tr b2 (bindE (num (streamN bs) (8 * n) p1 16) (st1 (streamN bs) (8 * n) M.toNat m)) b' y → Tr b2 (blockN bs (streamN bs) (8 * n) M.toNat 0 q2 m) b' y) := fun b' y h => h.of_eq (fun h0 => by rw [HBN.out, hp5 h0])
              have hc1 := rnum HSS.out wc p1 b2 mv1 m 16 (by omega) hr5
              clear hr5 ht5 hp5 HBN HR4
              go_wp2_with fail
              refine hc1.mono ?_
              rintro e w6 ⟨xn, q6, b6, rfl, hxn, hr6, ht6, htr6⟩
              have HT6 := Lib.hid (HT5.out.trans ht6)
              have HTR6 := Lib.hid htr6
              have hxn6 : xn ≤ 65535 := by have h2 : (2 : Nat) ^ 16 = 65536 := rfl
                                           omega
              have hc2 := rnum HSS.out w6 q6 b6 mv1 m 16 (by omega) hr6
              clear hr6 ht6 htr6 hc1
              go_wp2_with fail
              refine hc2.mono ?_
              rintro e w7 ⟨xm, q7, b7, rfl, hxm, hr7, ht7, htr7⟩
              have HR7 := Lib.hid hr7
              have HT7 := Lib.hid (HT6.out.trans ht7)
              have hxm6 : xm ≤ 65535 := by have h2 : (2 : Nat) ^ 16 = 65536 := rfl
                                           omega
              have HK7 : Hid (∀ b' y, Tr b7 (st2 (streamN bs) (8 * n) M.toNat m xn (xm, q7)) b' y → Tr b2 (blockN bs (streamN bs) (8 * n) M.toNat 0 q2 m) b' y) := fun b' y h => HKA.out b' y (HTR6.out.bind (by
                rw [st1]
                exact htr7.bind h))
              obtain ⟨xo, hxo⟩ : ∃ xo, 65535 - xn = xo := ⟨_, rfl⟩
              have hxoi : 65535 - (xn : Int) = (xo : Int) := by omega
              have HXO : Hid (xo + xn = 65535) := by show _ = _; omega
              clear hr7 ht7 htr7 hc2 HKA HTR6 hxo
              go_upto_if 52 with fail
              go_cut [] from 18 to 90 (fun wx => ∃ b8 : Nat, RL w Sb a n c M wx q7 b8 mv1 m ∧ Turn Sb mv1 mv1 w4 wx ∧ ∀ b' y, Tr b8 (bgo (streamN bs) (8 * n) M.toNat xn q7 m) b' y → Tr b2 (blockN bs (streamN bs) (8 * n) M.toNat 0 q2 m) b' y)
              case first =>
                by_cases hne : xm = xo
                · have hni : (xm : Int) = (xo : Int) := by omega
                  have HK8 : Hid (∀ b' y, Tr b7 (bgo (streamN bs) (8 * n) M.toNat xn q7 m) b' y → Tr b2 (blockN bs (streamN bs) (8 * n) M.toNat 0 q2 m) b' y) := fun b' y h => HK7.out b' y (by
                    rw [st2, if_neg (by have := HXO.out; show ¬ (xm + xn ≠ 65535); omega)]
                    exact h)
                  subst hne
                  go_wp2_with fail
                  go_meet
                  exact ⟨b7, HR7.out, HT7.out, HK8.out⟩
                · have hni : ¬ (xm : Int) = (xo : Int) := by omega
                  have hstop' : Calls Tryz.prog 29 #[.pointer (some ⟨Sb, 0, none⟩), .int .i64 4] w7 fun e w' => e = .returned (.tuple #[]) ∧ RL w Sb a n c M w' q7 (orFour b7) mv1 m ∧ Turn Sb mv1 mv1 w7 w' := rstop w7 q7 b7 mv1 m 4 HR7.out
                  have HFE : Hid (∀ y, Tr b2 (blockN bs (streamN bs) (8 * n) M.toNat 0 q2 m) (orFour b7) y) := fun y => HK7.out _ _ (by
                    rw [st2, if_pos (by have := HXO.out; show xm + xn ≠ 65535; omega)]
                    exact Tr.err b7 4 (by omega) _)
                  clear hne
                  go_wp2_with fail
                  refine hstop'.mono ?_
                  rintro e w8 ⟨rfl, h1, h2⟩
                  have HR8 := Lib.hid h1
                  have HT8 := Lib.hid (HT7.out.trans h2)
                  clear h1 h2 hstop'
                  go_wp2_with fail
                  go_meet
                  exact ⟨orFour b7, HR8.out, HT8.out, fun b' y h => by rw [h.2 (orFour_ne b7)]; exact HFE.out y⟩
              case rest =>
                obtain ⟨b8, hr8, ht8, hk8⟩ := hcut
                have HR8 := Lib.hid hr8
                have HT8 := Lib.hid (HT4.out.trans ht8)
                have HK8 := Lib.hid hk8
                clear hr8 ht8 hk8 HK7 HXO hxoi HR7 HT7 HT6 HT5 hxm6 hxm
                go_wp2_with fail
                go_loopw [10] (fun vi wz => ∃ (i b9 p9 : Nat) (m9 : List Int) (mv9 : Value), vi = .int .i64 (i : Int) ∧ i ≤ xn ∧ RL w Sb a n c M wz p9 b9 mv9 m9 ∧ Turn Sb (.slice none 0 0) mv9 w1 wz ∧ ∀ b' y, Tr b9 (bgo (streamN bs) (8 * n) M.toNat (xn - i) p9 m9) b' y → Tr b2 (blockN bs (streamN bs) (8 * n) M.toNat 0 q2 m) b' y) (fun vi _ => xn - (intOf vi).toNat)
                case atStart => exact ⟨0, b8, q7, m, mv1, rfl, Nat.zero_le _, HR8.out, HT8.out, HK8.out⟩
                case round =>
                  obtain ⟨i, b9, p9, m9, mv9, rfl, hi, hr9, ht9, hk9⟩ := hrel
                  have HR9 := Lib.hid hr9
                  have HT9 := Lib.hid ht9
                  have HK9 := Lib.hid hk9
                  obtain ⟨-, -, -, -, c4⟩ := rs_cells hr9.1
                  clear hr9 ht9 hk9 HR8 HT8 HK8
                  by_cases hlt : i < xn
                  · have hli : (i : Int) < (xn : Int) := by omega
                    by_cases hb9 : b9 = 0
                    · subst hb9
                      have hc8 := rnum HSS.out wr p9 0 mv9 m9 8 (by omega) HR9.out
                      have HKB : Hid (∀ b' y, Tr 0 (bindE (num (streamN bs) (8 * n) p9 8) fun v => bindE (giveN M.toNat m9 (v.1 : Int)) fun m => bgo (streamN bs) (8 * n) M.toNat (xn - (i + 1)) v.2 m) b' y → Tr b2 (blockN bs (streamN bs) (8 * n) M.toNat 0 q2 m) b' y) := fun b' y h => HK9.out b' y (by
                        rw [show xn - i = (xn - (i + 1)) + 1 by omega, bgo]
                        exact h)
                      go_wp2_with fail
                      refine hc8.mono ?_
                      rintro e wa ⟨xc, qa, ba, rfl, hxc, hra, hta, htra⟩
                      have HTa := Lib.hid (HT9.out.trans hta)
                      have HTRa := Lib.hid htra
                      have hxc8 : xc ≤ 255 := by have h2 : (2 : Nat) ^ 8 = 256 := rfl
                                                 omega
                      have hw8 : IntKind.u8.wrap (xc : Int) = (xc : Int) := by rw [IntKind.wrap_u8]; omega
                      have hpt := rput HSS.out wa qa ba mv9 m9 hra xc hxc8
                      clear hra hta htra hc8 c4
                      go_wp2_with fail
                      refine hpt.mono ?_
                      rintro e wb ⟨rfl, bb, mvb, mb, hrb, htb, htrb⟩
                      have HRb := Lib.hid hrb
                      have HTb := Lib.hid (HTa.out.trans htb)
                      have HTRb := Lib.hid htrb
                      clear hrb htb htrb hpt
                      go_wp2_with fail
                      go_roundw
                      case rel => exact ⟨i + 1, bb, qa, mb, mvb, by go_num, by omega, HRb.out, HTb.out, fun b' y h => HKB.out b' y (HTRa.out.bind (HTRb.out.bind (f := fun m => bgo (streamN bs) (8 * n) M.toNat (xn - (i + 1)) qa m) h))⟩
                      case measure => simp [intOf]; omega
                    · have hbi : ((b9 : Int) == 0) = false := by simp; omega
                      have hbj : ¬ ((b9 : Int) = 0) := by omega
                      have HFE : Hid (Tr b2 (blockN bs (streamN bs) (8 * n) M.toNat 0 q2 m) b9 (p9, m9)) := HK9.out _ _ (Tr.dead hb9 _ _)
                      clear hb9
                      go_wp2_with fail
                      go_meet
                      exact ⟨p9, b9, m9, mv9, HR9.out, HT9.out, HFE.out⟩
                  · have hli : ¬ (i : Int) < (xn : Int) := by omega
                    have HFE : Hid (Tr b2 (blockN bs (streamN bs) (8 * n) M.toNat 0 q2 m) b9 (p9, m9)) := HK9.out _ _ (by
                      rw [show xn - i = 0 by omega, bgo]
                      exact Tr.ok _ _)
                    go_wp2_with fail
                    go_meet
                    exact ⟨p9, b9, m9, mv9, HR9.out, HT9.out, HFE.out⟩
          · have k0i : ¬ (x2 : Int) = 0 := by omega
            by_cases k1 : x2 = 1
            · subst k1
              have HBN : Hid (blockN bs (streamN bs) (8 * n) M.toNat 1 q2 m = signsN (streamN bs) (8 * n) M.toNat (signR (streamN bs) (8 * n) (codesT fixedLs)) (farR (streamN bs) (8 * n) (codesT fives) true) q2 m) := by
                show _ = _
                unfold blockN
                rw [if_neg (by omega), if_pos rfl]
                have e1 : signR (streamN bs) (8 * n) (codesT fixedLs) = fixedSignN (streamN bs) (8 * n) := funext fun p => fixed_sign _ _ p
                have e2 : farR (streamN bs) (8 * n) (codesT fives) true = fixedDistN (streamN bs) (8 * n) := funext fun p => fixed_dist _ _ p
                rw [e1, e2]
              have hfx := fixed_ls w4
              clear k0
              go_wp2_with fail
              refine hfx.mono ?_
              rintro e w5 ⟨⟨a5, c5, a6, c6, rfl, hf1, hf2⟩, hb5⟩
              have HF1 : Hid (NumsAt w5 a5 288 fixedLs) := hf1.nums.1
              have HF2 : Hid (NumsAt w5 a6 32 fives) := hf2.nums.1
              have hc5 := hf1.cap
              have hc6 := hf2.cap
              have HR5 := Lib.hid (HR4.out.below hb5)
              have HT5 : Hid (Turn Sb mv1 mv1 w4 w5) := Turn.of_below hb5
              have hcd1 := codes_any w5 a5 288 c5 fixedLs hc5 (by omega) HF1.out
              clear hfx hf1 hf2 hb5
              go_wp2_with fail
              refine hcd1.mono ?_
              rintro e w6 ⟨rfl, hr6, hb6⟩
              have HC6 := Lib.hid hr6
              have hl6 : w5.heap.size < w6.heap.size := (Array.getElem?_eq_some_iff.1 hr6).1
              have HR6 := Lib.hid (HR5.out.below hb6)
              have HT6 : Hid (Turn Sb mv1 mv1 w4 w6) := HT5.out.trans (Turn.of_below hb6)
              have hcd2 := codes_any w6 a6 32 c6 fives hc6 (by omega) (HF2.out.below hb6)
              clear hcd1 hr6 hb6
              go_wp2_with fail
              refine hcd2.mono ?_
              rintro e w7 ⟨rfl, hr7, hb7⟩
              have HC7 : Hid (CodeRow w7 w5.heap.size (codesT fixedLs)) := (hb7.block _ hl6).trans HC6.out
              have HC8 : Hid (CodeRow w7 w6.heap.size (codesT fives)) := hr7
              have HR7 := Lib.hid (HR6.out.below hb7)
              have HT7 : Hid (Turn Sb mv1 mv1 w4 w7) := HT6.out.trans (Turn.of_below hb7)
              have hS5 := HR5.out.lt
              have hown := HR5.out.own
              have hne : ∀ j, w5.heap.size ≤ j → mv1.ownBlock ≠ some j := fun j hj e => by have := hown _ e; omega
              have hsg := rsigns HSS.out (codesT fixedLs) (codesT fives) (codesT_mem _) (codesT_mem _) 288 32 (by rw [codesT_len, fixedLs_len]) (by rw [codesT_len]; rfl) (by omega) (by omega) true w5.heap.size w6.heap.size (by omega) (by omega) w7 q2 b2 mv1 m (hne _ (by omega)) (hne _ (by omega)) HC7.out HC8.out HR7.out
              rw [← HBN.out] at hsg
              clear hcd2 hr7 hb7 hne hown
              go_wp2_with fail
              refine hsg.mono ?_
              rintro e w11 ⟨rfl, q11, b11, mv11, m11, hr11, ht11, htr11⟩
              have HR11 := Lib.hid hr11
              have HT11 := Lib.hid (HT4.out.trans (HT7.out.trans ht11))
              have HTR11 := Lib.hid htr11
              clear hr11 ht11 htr11 hsg
              go_wp2_with fail
              go_meet
              exact ⟨q11, b11, m11, mv11, HR11.out, HT11.out, HTR11.out⟩
            · have k1i : ¬ (x2 : Int) = 1 := by omega
              by_cases k2 : x2 = 2
              · subst k2
                have htl := rtold HSS.out w4 q2 b2 mv1 m HR4.out
                rw [← told_eq (streamN bs) (8 * n) M.toNat m bs q2] at htl
                clear k0 k1
                go_wp2_with fail
                refine htl.mono ?_
                rintro e w5 ⟨rfl, q5, b5, mv5, m5, h1, h2, h3⟩
                have HR5 := Lib.hid h1
                have HT5 := Lib.hid (HT4.out.trans h2)
                have HTR5 := Lib.hid h3
                clear h1 h2 h3 htl
                go_wp2_with fail
                go_meet
                exact ⟨q5, b5, m5, mv5, HR5.out, HT5.out, HTR5.out⟩
              · have k2i : ¬ (x2 : Int) = 2 := by omega
                have hstop := rstop w4 q2 b2 mv1 m 4 HR4.out
                have HBN : Hid (blockN bs (streamN bs) (8 * n) M.toNat x2 q2 m = .error 4) := by
                  show _ = _
                  unfold blockN
                  rw [if_neg k0, if_neg k1, if_neg k2]
                have hstop' : Calls Tryz.prog 29 #[.pointer (some ⟨Sb, 0, none⟩), .int .i64 4] w4 fun e w' => e = .returned (.tuple #[]) ∧ RL w Sb a n c M w' q2 (orFour b2) mv1 m ∧ Turn Sb mv1 mv1 w4 w' := hstop
                clear k0 k1 k2 hstop
                go_wp2_with fail
                refine hstop'.mono ?_
                rintro e w5 ⟨rfl, h1, h2⟩
                have HR5 := Lib.hid h1
                have HT5 := Lib.hid (HT4.out.trans h2)
                clear h1 h2 hstop'
                go_wp2_with fail
                go_meet
                exact ⟨q2, orFour b2, m, mv1, HR5.out, HT5.out, by rw [HBN.out]; exact Tr.err b2 4 (by omega) _⟩
        case rest =>
          obtain ⟨q3, b3, m3, mv3, hr5, ht5, htr5⟩ := hcut
          have HR5 := Lib.hid hr5
          have HT5 := Lib.hid ht5
          have HK3 : Hid (∀ b' y, Tr b3 (rw3 bs (streamN bs) M.toNat x1 (q3, m3)) b' y → Tr 0 R b' y) := fun b' y h => HKE.out b' y (HTR3.out.bind (by
            have hl := HLN.out
            rw [rw1, hl]
            refine HTR4.out.bind ?_
            rw [rw2, hl]
            exact htr5.bind h))
          have HADV : Hid (b3 = 0 → q < q3 ∧ q3 ≤ 8 * n) := fun h0 => by
            subst h0
            have h1 := htr5.live
            have h2 := HTR4.out
            rw [h1.1] at h2
            have h3 := h2.live
            have h4 := HTR3.out
            rw [h3.1] at h4
            have h5 := num_ok h4.live.2
            have h6 := num_ok h3.2
            have hl := HLN.out
            have h7 := adv_block (bs := bs) (p := q2) (by rw [hl]; exact hq28) (by rw [hl]; exact h1.2)
            omega
          clear hr5 ht5 htr5 HTR3 HTR4 HR4 HT4 HKE
          by_cases hl1 : x1 = 1
          · have hli : (x1 : Int) = 1 := by omega
            have HFIN : Hid (Tr 0 R b3 (q3, m3)) := HK3.out _ _ (by
              rw [rw3, if_neg (by omega)]
              exact Tr.ok _ _)
            clear hl1
            go_wp2_with fail
            go_meet
            exact ⟨q3, b3, m3, mv3, HR5.out, HT5.out, HFIN.out⟩
          · have hli : ¬ (x1 : Int) = 1 := by omega
            have HX0 : Hid (x1 = 0) := by show _ = _; omega
            clear hl1
            go_wp2_with fail
            go_roundw
            case rel =>
              exact ⟨q3, b3, m3, mv3, HR5.out, HT5.out, fun b' y h => HK3.out b' y (by
                rw [rw3, if_pos HX0.out]
                exact h)⟩
            case measure =>
              rw [HLEFT.out, leftR_of HR5.out.1]
              by_cases hz : b3 = 0
              · rw [if_pos hz]
                have := HADV.out hz
                omega
              · rw [if_neg hz]; omega
      · have hbi : ((b : Int) == 0) = false := by simp; omega
        have hbj : ¬ ((b : Int) = 0) := by omega
        have HFIN : Hid (Tr 0 R b (q, m)) := HK.out _ _ (Tr.dead hb0 _ _)
        clear hb0
        go_wp2_with fail
        go_meet
        exact ⟨q, b, m, mv1, HRr.out, HTr.out, HFIN.out⟩
  case rest =>
    obtain ⟨q, b, m, mv, hr, ht, htr⟩ := hcut
    have HBW := Lib.hid (HW.out mv wc ht)
    obtain ⟨va, vc, hmv, -, -, -⟩ := hr.2.2.1.shape
    subst hmv
    have HRr := Lib.hid hr
    obtain ⟨-, c1, c2, -, c4⟩ := rs_cells hr.1
    have HTRF := Lib.hid htr
    have hq8 := hr.2.1
    clear hr ht htr HW HR0
    by_cases hb0 : b = 0
    · subst hb0
      have hbi : ((0 : Int) != 0) = false := rfl
      have hq9 : (q : Int) ≤ 8000000000 := by omega
      have HRES : Hid (rawOf bs most = .ok (q, m)) := by
        show _ = _
        rw [hR]
        exact HTRF.out.live.2
      have HOUT : Hid (RawQ w most bs (.returned (.tuple #[.slice va m.length vc, .int .i64 (((q : Int) + 7) / 8), .int .i64 0])) wc) := .inl ⟨q, m, va, vc, HRES.out, by rw [show ((q : Int) + 7) / 8 = (((q + 7) / 8 : Nat) : Int) by omega], HRr.out.2.2.1.row (range_of_mem0 HRr.out.2.2.2.2.2.2.2), by rw [HMM.out]; exact HRr.out.2.2.2.2.2.2.1, by rw [HSB.out]; exact HBW.out, HRr.out.2.2.1⟩
      have hqw : IntKind.i64.wrap ((q : Int) + 7) = (q : Int) + 7 := IntWalk.i64_in _ (by omega)
      clear HRES
      go_wp2_with fail
      go_quiet (fail)
      have HRd := Lib.hid (HOUT.out.drewN nq)
      go_wp2_with fail
      go_ret3
      exact HRd.out
    · have hbi : ((b : Int) != 0) = true := by simp; omega
      have hbj : ¬ ((b : Int) = 0) := by omega
      have HRES : Hid (rawOf bs most = .error b) := by
        show _ = _
        rw [hR]
        rcases HTRF.out.1 rfl with ⟨e, -⟩ | ⟨-, e⟩
        · exact absurd e hb0
        · exact e
      have HOUT : Hid (RawQ w most bs (.returned (.tuple #[.slice none 0 0, .int .i64 0, .int .i64 (b : Int)])) wc) := .inr ⟨b, HRES.out, hb0, rfl, by rw [HSB.out]; exact HBW.out⟩
      clear hb0 HRES
      go_wp2_with fail
      go_quiet (fail)
      have HRd := Lib.hid (HOUT.out.drewN nq)
      go_wp2_with fail
      go_ret3
      exact HRd.out
end Go.Proofs.YtglgchjkonjpiaaGreatDoor
