/- The program's statement InflateFixed holds: for every input it returns true and leaves its arguments as they were. No further condition. -/
import Derived.Test.YtmdgpabmknigmaaRows
import Derived.WalkKit
import Derived.ProofKit
import Derived.OpenShut
import Derived.ShutString
import Derived.ChangeOld
import Derived.Below
import Derived.StillTailTactics
import Derived.Deep.RegionHeld3
import Derived.Deep.AppendLies
import Derived.StillTactics
import Derived.Deep.RegionWith
import Derived.WalkSpells
import Derived.Outline
import Derived.Test.YtmdgpabmknigmaaFixBits
import Derived.Test.YtmdgpabmknigmaaRefD
import Derived.Test.YtmdgpabmknigmaaKnow3
namespace Go.Proofs.Ytmdgpabmknigmaa.inflateFixed
open Go.ChangeShapes Go.WideShapes Go.ChangeAt Go.RowKit
open Go.ChangeMaps (open_string shut_string)
set_option linter.unusedVariables false

theorem own : ownKnob Try.prog.godebug = none := by kernel_rfl
theorem laidOut : laidOutB Try.prog = true := by kernel_rfl

/-- A slice of integers that came in: nil, or a row of cells. -/
def IsRow (k : IntKind) (w : World) (a : Option Addr) (len cap : Nat) (zs : List Int) : Prop :=
  (a = none ∧ len = 0 ∧ cap = 0 ∧ zs = []) ∨
  ∃ x, a = some x ∧ len ≤ cap ∧ cap ≤ maxLen ∧ zs.length = cap ∧ (∀ i, i < zs.length → w.cell? (x.add i) = some (.int k (zs.getD i 0))) ∧ ∀ n ∈ zs, (Lit.int k n).wf = true
open Plain
/-! ### The walk -/
set_option maxRecDepth 100000 in
set_option maxHeartbeats 32000000 in
theorem walk (a0 : Option Addr) (len0 cap0 : Nat) (z0 : List Int) (a1 : Int) (w : World) (w0 : IsRow .u8 w a0 len0 cap0 z0) (w1 : (Lit.int .i64 a1).wf = true) :
    Calls Try.prog 3 #[.slice a0 len0 cap0, .int .i64 a1] w fun e w' => e = .returned (.bool true) ∧ Below w.heap.size w w' := by
  obtain ⟨hr0, hlc0, hcm0⟩ := row_in w0 300
  obtain ⟨m0, hm0⟩ : ∃ m, min len0 300 = m := ⟨_, rfl⟩
  have k0 : m0 ≤ 300 := by omega
  have kc : m0 ≤ cap0 := by omega
  have hmin : ∀ W : World, Sem.run Try.prog (Builtin.min_ #[3, 3] 3 #[.int .i64 (len0 : Int), .int .i64 300]) W = .ok (.int .i64 (m0 : Int)) W := fun W => by
    rw [run_min2, show min (len0 : Int) 300 = (m0 : Int) by omega]
  rw [hm0] at hr0
  have R0 := Lib.hid hr0
  clear w0 hr0 hm0
  generalize (z0.take len0).take 300 = x0 at *
  have HXL : Hid (x0.length = m0) := R0.out.len
  have HXR := Lib.hid R0.out.range
  go_enter Try.func3, Try.ntmps3
  go_wp2_with fail
  clear hmin
  refine (fixed_ls w).mono ?_
  rintro e w2 ⟨⟨a5, c5, a6, c6, rfl, hf1, hf2⟩, hb2⟩
  have HF1 : Hid (NumsAt w2 a5 288 fixedLs) := hf1.nums.1
  have hc5 := hf1.cap
  have HB2 := Lib.hid hb2
  have hcd := codes_any w2 a5 288 c5 fixedLs hc5 (by omega) HF1.out
  clear hf1 hf2 hb2
  go_wp2_with fail
  refine hcd.mono ?_
  rintro e w3 ⟨rfl, hr3, hb3⟩
  obtain ⟨Cb, hCb⟩ : ∃ C, w2.heap.size = C := ⟨_, rfl⟩
  rw [hCb] at hr3
  have HCR : Hid (CodeRow w3 Cb (codesT fixedLs)) := hr3
  have HB3 : Hid (Below w.heap.size w w3) := HB2.out.trans (hb3.mono HB2.out.size)
  have hwC : w.heap.size ≤ Cb := by rw [← hCb]; exact HB2.out.size
  have R3 := Lib.hid (R0.out.below HB3.out)
  rw [hCb]
  clear hcd hr3 hb3 hCb HF1 HB2
  have HT0 : Hid ((⟨#[49, 49, 48]⟩ : ByteArray) = strOfNums [49, 49, 48]) := by show _ = _; rfl
  have ht0 := HT0.out
  go_wp2_with fail
  go_loopw [8, 9] (fun vs vi wr => ∃ (i : Nat) (T : List Int), vi = .int .i64 (i : Int) ∧ i ≤ m0 ∧ vs = .string (strOfNums T) ∧ T.length ≤ 3 + 9 * i ∧ pv T (0, 0) = putsV (x0.take i) (3, 3) ∧ (∀ x ∈ T, x = 48 ∨ x = 49) ∧ wr = w3) (fun _ vi _ => m0 - (intOf vi).toNat)
  case atStart =>
    refine ⟨0, [49, 49, 48], rfl, Nat.zero_le _, ?_, by decide, by rw [List.take_zero]; rfl, by decide, rfl⟩
    first | rfl | (rw [← HT0.out])
  case round =>
    obtain ⟨i, T, rfl, hi, rfl, hTl, hpv, hTr, rfl⟩ := hrel
    have HPV := Lib.hid hpv
    have HTR := Lib.hid hTr
    obtain ⟨G0, eG0⟩ : ∃ G, strOfNums T = G := ⟨_, rfl⟩
    have HG0 := Lib.hid eG0
    have hGs : G0.size = T.length := by rw [← eG0, strOfNums_size]
    obtain ⟨tl, htl⟩ : ∃ tl, T.length = tl := ⟨_, rfl⟩
    have HTL := Lib.hid htl
    rw [htl] at hGs hTl
    rw [eG0]
    clear hpv hTr eG0 htl
    by_cases hlt : i < m0
    · have hli : (i : Int) < (m0 : Int) := by omega
      have hi0 : (0 : Int) ≤ (i : Int) := by omega
      obtain ⟨b, off, hab, hcell⟩ : ∃ b off, a0 = some ⟨b, off, none⟩ ∧ wr.cell? ⟨b, off + i, none⟩ = some (.int .u8 (x0[i]?.getD 0)) := by
        rcases R3.out.bytes.2.2.2 with h | ⟨b, off, e, h⟩
        · omega
        · exact ⟨b, off, e, h i hlt⟩
      have hr1 := HXR.out i
      obtain ⟨c, hc⟩ : ∃ c : Nat, x0[i]?.getD 0 = (c : Int) := Int.eq_ofNat_of_zero_le hr1.1
      have HC := Lib.hid hc
      rw [hc] at hcell hr1
      have hc8 : c ≤ 255 := by omega
      have hci : (c : Int) < 288 := by omega
      have hc0 : (0 : Int) ≤ (c : Int) := by omega
      have hcc := CodeRow.cell HCR.out c (by rw [codesT_len, fixedLs_len]; omega)
      rw [fixed_code c (by omega)] at hcc
      obtain ⟨U, eU⟩ : ∃ U, txt (fixC c).2 (fixC c).1 = U := ⟨_, rfl⟩
      have HU := Lib.hid eU
      obtain ⟨C, eC⟩ : ∃ C, strOfNums U = C := ⟨_, rfl⟩
      have hcc2 : wr.cell? ⟨Cb, c, none⟩ = some (.string C) := by rw [hcc]; show some (Value.string (Sx _ _)) = _; unfold Sx; rw [eU, eC]
      obtain ⟨ul, hul⟩ : ∃ ul, U.length = ul := ⟨_, rfl⟩
      have hul9 : ul ≤ 9 := by
        rw [← hul, ← eU, txt_len]
        unfold fixC
        repeat (first | split | omega)
      have hCs : C.size = ul := by rw [← eC, strOfNums_size, hul]
      obtain ⟨G1, eG1⟩ : ∃ G, strOfNums (T ++ U) = G := ⟨_, rfl⟩
      have hadd : G0 ++ C = G1 := by rw [← HG0.out, ← eC, nums_append, eG1]
      have HG1 := Lib.hid eG1
      have HUL := Lib.hid hul
      have HUR : Hid (∀ x ∈ T ++ U, x = 48 ∨ x = 49) := fun x hx => by
        rcases List.mem_append.1 hx with h | h
        · exact HTR.out x h
        · rw [← eU] at h; exact txt_mem _ _ x h
      have HPV2 : Hid (pv (T ++ U) (0, 0) = putsV (x0.take (i + 1)) (3, 3)) := by
        show _ = _
        have htk : x0.take (i + 1) = x0.take i ++ [x0[i]?.getD 0] := by
          rw [List.take_succ_eq_append_getElem (by rw [HXL.out]; exact hlt), List.getElem?_eq_getElem (by rw [HXL.out]; exact hlt)]
          rfl
        rw [pv_append, HPV.out, ← eU, pv_txt, htk]
        unfold putsV
        rw [List.foldl_append, List.foldl_cons, List.foldl_nil, HC.out]
        rfl
      subst hab
      clear hc hcc eU eC hul eG1 hlt
      go_wp2_with fail
      go_roundw
      case rel => exact ⟨i + 1, T ++ U, by go_num, by omega, by rw [HG1.out], by rw [List.length_append, HTL.out, HUL.out]; omega, HPV2.out, HUR.out, trivial⟩
      case measure => simp [intOf]; omega
    · have hli : ¬ (i : Int) < (m0 : Int) := by omega
      obtain rfl : i = m0 := by omega
      have HPV3 : Hid (pv T (0, 0) = putsV x0 (3, 3)) := by
        show _ = _
        rw [HPV.out, List.take_of_length_le (by rw [HXL.out]; exact Nat.le_refl _)]
      have HX255 : Hid (∀ x ∈ x0, 0 ≤ x ∧ x ≤ 255) := fun x hx => by
        obtain ⟨j, hj, rfl⟩ := List.mem_iff_getElem.1 hx
        have := HXR.out j
        rwa [List.getElem?_eq_getElem hj] at this
      have hBw : w.heap.size ≤ wr.heap.size := HB3.out.size
      have HNB : Hid (Below wr.heap.size wr (wr.alloc (.cells #[] 5))) := (Below.refl _ _).alloc (Nat.le_refl _) _
      have HM0 : Hid (Mid (wr.alloc (.cells #[] 5)) wr.heap.size (.slice (some ⟨wr.heap.size, 0, none⟩) 0 0) 0 []) :=
        ⟨rfl, .inr ⟨wr.heap.size, 0, 0, rfl, Nat.le_refl _, by rw [World.size_alloc]; omega, Nat.le_refl _, by omega, (fun j v hv => by cases hv), (fun j hj => absurd hj (Nat.not_lt_zero _))⟩⟩
      have HSUM : Hid (0 + i ≤ 70368744177664) := by show _ ≤ _; omega
      have HOB : Hid (∀ k, (Value.slice (some ⟨wr.heap.size, 0, none⟩) 0 0).ownBlock = some k → wr.heap.size ≤ k) := fun k hk => by
        cases hk; exact Nat.le_refl _
      have HMZ : Hid (∀ W v, Mid W wr.heap.size v (0 + i) ([] ++ x0) → Mid W wr.heap.size v i x0) := fun W v h => by
        rw [Nat.zero_add, List.nil_append] at h; exact h
      clear HPV hi ht0 HT0
      go_upto_region 9 with fail
      apply wp_via_val (R := fun v wx => Mid wx wr.heap.size v i x0 ∧ Below wr.heap.size wr wx)
      · have tok : True := trivial
        go_wp2_with (
          have _t := tok
          at_builtin
          refine wpList_append_mid rfl _ _ 22 rfl wr.heap.size (.slice (some ⟨wr.heap.size, 0, none⟩) 0 0) 0 [] rfl HM0.out _ i x0 rfl (src_bytes (R3.out.below HNB.out).bytes) HSUM.out HNB.out.size ?_
          intro v5 w5 hm5 hg5 _h5
          have HM5 := Lib.hid (HMZ.out w5 v5 hm5)
          have HB5 : Hid (Below wr.heap.size wr w5) := HNB.out.grown hg5 HNB.out.size HOB.out
          go_simp
          refine wpList_plain (o := ⟨some 10, _, _, _, _, _⟩) rfl (fun K hK => ?_)
          go_simp
          refine hK _ _ ?_
          exact ⟨v5, rfl, HM5.out, HB5.out⟩)
      · rintro v5 w5 ⟨hm5, hb5⟩
        obtain ⟨pa, pc, rfl, -, -, -⟩ := hm5.shape
        have HM5 := Lib.hid hm5
        have HB5 := Lib.hid hb5
        have hiL : (i : Int) ≤ 300 := by omega
        have HV3 : Hid (Lt ((3, 3) : Nat × Nat)) := by show (3 : Nat) < 2 ^ 3; decide
        have HLT : Hid (Lt (pv T (0, 0))) := by
          show Lt _
          rw [HPV3.out]; exact putsV_lt x0 _ HV3.out
        clear hm5 hb5 HM0 HNB HSUM HOB HMZ
        go_upto_if 50 with fail
        go_cut [8, 10] from 19 (fun vs vw wx => ∃ (T2 W : List Int) (pb : Option Addr) (pd : Nat), vs = .string (strOfNums T2) ∧ vw = .slice pb W.length pd ∧ Mid wx wr.heap.size (.slice pb W.length pd) W.length W ∧ Below wr.heap.size wr wx ∧ T2.length ≤ 3000 ∧ W.length ≤ 310 ∧ Lt (pv T2 (0, 0)) ∧ (∀ x ∈ W, 0 ≤ x ∧ x ≤ 255) ∧ (∀ x ∈ T2, x = 48 ∨ x = 49) ∧ 3 ≤ T2.length ∧
          ∀ N L, Ext (putS 256 (pv T2 (0, 0))) N → (putS 256 (pv T2 (0, 0))).2 ≤ L → Ext (3, 3) N ∧ signsN N L 1000 (fixedSignN N L) (fixedDistN N L) 3 [] = .ok ((putS 256 (pv T2 (0, 0))).2, W))
        case first =>
          by_cases hz : i = 0
          · have hzi : ¬ (0 : Int) < (i : Int) := by omega
            have HX0 : Hid (x0 = []) := List.eq_nil_of_length_eq_zero (by rw [HXL.out]; exact hz)
            have HREAD : Hid (∀ N L, Ext (putS 256 (pv T (0, 0))) N → (putS 256 (pv T (0, 0))).2 ≤ L → Ext (3, 3) N ∧ signsN N L 1000 (fixedSignN N L) (fixedDistN N L) 3 [] = .ok ((putS 256 (pv T (0, 0))).2, x0)) := fun N L he hL => by
              have hpv := HPV3.out
              rw [HX0.out] at hpv ⊢
              rw [hpv] at he hL ⊢
              exact ⟨ext_down HV3.out (rev_lt _ _) he, read_end (v := (3, 3)) HV3.out he hL⟩
            have hT3 : 3 ≤ T.length := by
              have h1 := pv_len T (0, 0)
              rw [HPV3.out] at h1
              have h2 := putsV_ge x0 (3, 3)
              omega
            have HT3 := Lib.hid hT3
            have HTB : Hid (T.length ≤ 3000) := by show _ ≤ _; rw [HTL.out]; omega
            have HXB : Hid (x0.length ≤ 310) := by show _ ≤ _; rw [HXL.out]; omega
            clear hz hT3
            go_wp2_with fail
            go_meet
            exact ⟨T, x0, pa, pc, by rw [HG0.out], by rw [HXL.out], by rw [HXL.out]; exact HM5.out, HB5.out, HTB.out, HXB.out, HLT.out, HX255.out, HTR.out, HT3.out, HREAD.out⟩
          · have hzi : (0 : Int) < (i : Int) := by omega
            obtain ⟨mn, hmn⟩ : ∃ mn, min i 4 = mn := ⟨_, rfl⟩
            have hmn4 : mn ≤ 4 := by omega
            have hmni : mn ≤ i := by omega
            have hmn0 : 0 < mn := by omega
            have hmin4 : ∀ W : World, Sem.run Try.prog (Builtin.min_ #[3, 3] 3 #[.int .i64 (i : Int), .int .i64 4]) W = .ok (.int .i64 (mn : Int)) W := fun W => by
              rw [run_min2, show min (i : Int) 4 = (mn : Int) by omega]
            obtain ⟨d, hd, et⟩ : ∃ d : Nat, d < mn ∧ wrap64 ((IntKind.u64.wrap a1).tmod (mn : Int)) = (d : Int) := by
              have h0 : 0 ≤ IntKind.u64.wrap a1 := by rw [IntKind.wrap_u64]; omega
              generalize IntKind.u64.wrap a1 = u at *
              rw [Int.tmod_eq_emod_of_nonneg h0]
              have h1 := Int.emod_nonneg u (show (mn : Int) ≠ 0 by omega)
              have h2 := Int.emod_lt_of_pos u (show (0 : Int) < (mn : Int) by omega)
              rw [IntWalk.wrap64_in _ (by omega)]
              exact ⟨(u % (mn : Int)).toNat, by omega, by omega⟩
            have hd4 : d < 4 := by omega
            have hd1 : d + 1 ≤ i := by omega
            have hu : IntKind.u64.wrap (mn : Int) = (mn : Int) := by rw [IntKind.wrap_u64]; omega
            have hmn0' : ¬ ((mn : Int) = 0) := by omega
            have HREAD : Hid (∀ N L, Ext (putS 256 (putC d 5 (putS 264 (putsV x0 (3, 3))))) N → (putS 256 (putC d 5 (putS 264 (putsV x0 (3, 3))))).2 ≤ L → Ext (3, 3) N ∧ signsN N L 1000 (fixedSignN N L) (fixedDistN N L) 3 [] = .ok ((putS 256 (putC d 5 (putS 264 (putsV x0 (3, 3))))).2, agL (d + 1) 10 x0)) := fun N L he hL =>
              read_far HX255.out (by rw [HXL.out]; exact hd1) hd4 (by rw [HXL.out]; omega) he hL
            have hClt : Cb < wr.heap.size := (Array.getElem?_eq_some_iff.1 HCR.out).1
            have HCR5 : Hid (CodeRow w5 Cb (codesT fixedLs)) := (HB5.out.block Cb hClt).trans HCR.out
            have hC5 : Cb < w5.heap.size := Nat.lt_of_lt_of_le hClt HB5.out.size
            have HN6 : Hid (Below w5.heap.size w5 (w5.alloc (.cells #[.string ⟨#[48, 48, 48, 48, 48]⟩, .string ⟨#[48, 48, 48, 48, 49]⟩, .string ⟨#[48, 48, 48, 49, 48]⟩, .string ⟨#[48, 48, 48, 49, 49]⟩] 9))) := (Below.refl _ _).alloc (Nat.le_refl _) _
            have hcc := CodeRow.cell HCR5.out 264 (by rw [codesT_len, fixedLs_len]; omega)
            rw [fixed_code 264 (by omega)] at hcc
            obtain ⟨C1, eC1⟩ : ∃ C, strOfNums (txt 7 8) = C := ⟨_, rfl⟩
            have hcc1 : w5.cell? ⟨Cb, 264, none⟩ = some (.string C1) := by rw [hcc, ← eC1]; rfl
            have hC1s : C1.size = 7 := by rw [← eC1, strOfNums_size, txt_len]
            obtain ⟨C2, eC2⟩ : ∃ C, strOfNums (txt 5 d) = C := ⟨_, rfl⟩
            have hC2s : C2.size = 5 := by rw [← eC2, strOfNums_size, txt_len]
            have hcc2 : (w5.alloc (.cells #[.string ⟨#[48, 48, 48, 48, 48]⟩, .string ⟨#[48, 48, 48, 48, 49]⟩, .string ⟨#[48, 48, 48, 49, 48]⟩, .string ⟨#[48, 48, 48, 49, 49]⟩] 9)).cell? ⟨w5.heap.size, d, none⟩ = some (.string C2) := by
              rw [← eC2]
              exact cell_alloc_new w5 _ _ d _ (far_text d hd4)
            have hcc3 := (HN6.out.cell (p := ⟨Cb, 264, none⟩) hC5).trans hcc1
            obtain ⟨T1, eT1⟩ : ∃ U, T ++ txt 7 8 = U := ⟨_, rfl⟩
            obtain ⟨T2, eT2⟩ : ∃ U, T1 ++ txt 5 d = U := ⟨_, rfl⟩
            obtain ⟨G1, eG1⟩ : ∃ G, strOfNums T1 = G := ⟨_, rfl⟩
            obtain ⟨G2, eG2⟩ : ∃ G, strOfNums T2 = G := ⟨_, rfl⟩
            have hadd1 : G0 ++ C1 = G1 := by rw [← HG0.out, ← eC1, nums_append, eT1, eG1]
            have hadd2 : G1 ++ C2 = G2 := by rw [← eG1, ← eC2, nums_append, eT2, eG2]
            obtain ⟨t1, ht1⟩ : ∃ t, T1.length = t := ⟨_, rfl⟩
            have ht1e : t1 = tl + 7 := by rw [← ht1, ← eT1, List.length_append, txt_len, HTL.out]
            have hG1s : G1.size = t1 := by rw [← eG1, strOfNums_size, ht1]
            have ht1b : t1 ≤ 2900 := by omega
            have HPV2 : Hid (pv T2 (0, 0) = putC d 5 (putS 264 (putsV x0 (3, 3)))) := by
              show _ = _
              rw [← eT2, pv_append, pv_txt, ← eT1, pv_append, pv_txt, HPV3.out]; rfl
            have HT2R : Hid (∀ x ∈ T2, x = 48 ∨ x = 49) := fun x hx => by
              rw [← eT2, ← eT1] at hx
              rcases List.mem_append.1 hx with h | h
              · rcases List.mem_append.1 h with h | h
                · exact HTR.out x h
                · exact txt_mem _ _ x h
              · exact txt_mem _ _ x h
            have HT2L : Hid (T2.length = t1 + 5) := by show _ = _; rw [← eT2, List.length_append, txt_len, ht1]
            have HT1E := Lib.hid ht1e
            have HG2 := Lib.hid eG2
            have hdl : (d : Int) < 4 := by omega
            have hd0 : (0 : Int) ≤ (d : Int) := by omega
            have htb : tl ≤ 2800 := by omega
            clear hz hcc eC1 eC2 eT1 eT2 eG1 ht1 ht1e hcc1 hd hmn eG2
            obtain ⟨wo, hwo⟩ : ∃ wo : World, wo = wr := ⟨_, rfl⟩
            rw [← hwo]
            rw [← hwo] at HB5 HM5 HB3 HCR
            go_wp2_with fail
            clear hmin4 et hu
            generalize w5.alloc (.cells #[.string ⟨#[48, 48, 48, 48, 48]⟩, .string ⟨#[48, 48, 48, 48, 49]⟩, .string ⟨#[48, 48, 48, 49, 48]⟩, .string ⟨#[48, 48, 48, 49, 49]⟩] 9) = w6 at *
            go_quiet (fail)
            have HB7 : Hid (Below w5.heap.size w5 (w6.drewN nq)) := HN6.out.trans ((below_drewN w6 nq).mono HN6.out.size)
            generalize w6.drewN nq = w7 at *
            have HB8 : Hid (Below wo.heap.size wo w7) := HB5.out.trans (HB7.out.mono HB5.out.size)
            have HM7 : Hid (Mid w7 wo.heap.size (.slice pa i pc) i x0) := HM5.out.below HB7.out
            clear hcc2 hcc3 hadd1 hadd2 HM5 HB5 HB7 HN6 hC1s hC2s hG1s hd0 hdl htb
            go_wp2_with fail
            go_loopw [10, 13] (fun va vi wy => ∃ (j L : Nat) (pa : Option Addr) (pc : Nat), vi = .int .i64 (j : Int) ∧ j ≤ 10 ∧ L = i + j ∧ va = .slice pa L pc ∧ Mid wy wo.heap.size (.slice pa L pc) L (agL (d + 1) j x0) ∧ Below wo.heap.size wo wy) (fun _ vi _ => 10 - (intOf vi).toNat)
            case atStart => exact ⟨0, i, pa, pc, rfl, by omega, rfl, rfl, HM7.out, HB8.out⟩
            case round =>
              obtain ⟨j, L, pb, pd, rfl, hj, hLL, rfl, hm, hb⟩ := hrel
              have HLL := Lib.hid hLL
              have HMj := Lib.hid hm
              have HBj := Lib.hid hb
              have hL9 : L ≤ 310 := by omega
              have hL1 : d + 1 ≤ L := by omega
              have hsz : wo.heap.size ≤ wr.heap.size := hb.size
              have hml : (agL (d + 1) j x0).length = L := hm.1
              have HXJ : Hid (∀ x ∈ agL (d + 1) j x0, 0 ≤ x ∧ x ≤ 255) := agL_mem _ _ _ HX255.out
              obtain ⟨g, o, rfl⟩ := mid_some hm (by omega)
              clear hLL
              by_cases hj10 : j < 10
              · have hjl : (j : Int) < 10 := by omega
                obtain ⟨p, hp⟩ : ∃ p, L - (d + 1) = p := ⟨_, rfl⟩
                have hpL : p < L := by omega
                obtain ⟨q1, -⟩ := mid_cell hm p hpL
                have hy := range_of_mem0 HXJ.out p
                have HSN : Hid (agL (d + 1) (j + 1) x0 = agL (d + 1) j x0 ++ [(agL (d + 1) j x0)[p]?.getD 0]) := by
                  show _ = _
                  rw [agL_snoc, hml, hp]
                generalize (agL (d + 1) j x0)[p]?.getD 0 = y at *
                have HL : Hid (Bytes (wr.alloc (.cells #[.int .u8 y] 5)) (some ⟨wr.heap.size, 0, none⟩) 1 [y]) := Bytes.lit wr wr.heap.size rfl [y] 5 (0, 0) 1 rfl (by omega) (fun x hx => by rw [List.mem_singleton.1 hx]; exact hy)
                have HN : Hid (Below wr.heap.size wr (wr.alloc (.cells #[.int .u8 y] 5))) := (Below.refl _ _).alloc (Nat.le_refl _) _
                have hdL : (d : Int) + 1 ≤ (L : Int) := by omega
                have hpl : (p : Int) < (L : Int) := by omega
                have hpe : (L : Int) - (d : Int) - 1 = (p : Int) := by omega
                have tok : True := trivial
                clear hm hb hml hp
                go_wp2_with (
                  have _t := tok
                  at_builtin
                  refine wpList_append_to rfl _ _ 22 rfl wo.heap.size (.slice (some ⟨g, o, none⟩) L pd) L (agL (d + 1) j x0) rfl (HMj.out.below HN.out) _ 1 [y] rfl (src_bytes HL.out) (L + 1) (agL (d + 1) (j + 1) x0) rfl HSN.out.symm (by omega) (Nat.le_trans hsz HN.out.size) ?_
                  intro qa qc p2 hm hb
                  have HM2 := Lib.hid hm
                  have HB2 : Hid (Below wo.heap.size wo p2) := (HBj.out.trans (HN.out.mono hsz)).trans hb
                  clear tok hm hb
                  refine Hid.out ?_)
                refine unhid ?_
                clear HMj HL hpe hpl hdL
                go_wp2_with fail
                go_roundw
                case rel => exact ⟨j + 1, L + 1, qa, qc, by go_num, by omega, by rw [HLL.out]; omega, rfl, HM2.out, HB2.out⟩
                case measure => simp [intOf]; go_num
              · have hjl : ¬ (j : Int) < 10 := by omega
                obtain rfl : j = 10 := by omega
                have HML : Hid ((agL (d + 1) 10 x0).length = L) := hml
                have HLT2 : Hid (Lt (pv T2 (0, 0))) := by
                  show Lt _
                  rw [HPV2.out]; exact put_lt (putS_lt (putsV_lt x0 _ HV3.out)) (rev_lt _ _)
                have HT2B : Hid (T2.length ≤ 3000 ∧ 3 ≤ T2.length) := by show _ ∧ _; rw [HT2L.out]; have := HT1E.out; omega
                have hwoe : wr = wr := rfl
                clear hm hb hml
                go_wp2_with fail
                go_meet
                exact ⟨T2, agL (d + 1) 10 x0, some ⟨g, o, none⟩, pd, by rw [HG2.out], by rw [HML.out], by rw [HML.out]; rw [hwo] at HMj; exact HMj.out, by rw [hwo] at HBj; exact HBj.out, HT2B.out.1, by rw [HML.out]; exact hL9, HLT2.out, HXJ.out, HT2R.out, HT2B.out.2, fun N L he hL => by rw [HPV2.out] at he hL ⊢; exact HREAD.out N L he hL⟩
        case rest =>
          obtain ⟨T2, W, pb, pd, rfl, rfl, hmW, hbW, hTb, hWb, hlt2, hWr, hTr2, hT3, hread⟩ := hcut
          have hClt : Cb < wr.heap.size := (Array.getElem?_eq_some_iff.1 HCR.out).1
          have HCR2 : Hid (CodeRow wc Cb (codesT fixedLs)) := (hbW.block Cb hClt).trans HCR.out
          have HMW := Lib.hid hmW
          have HBC : Hid (Below w.heap.size w wc) := HB3.out.trans (hbW.mono hBw)
          have HWR := Lib.hid hWr
          have HTR2 := Lib.hid hTr2
          have HREAD := Lib.hid hread
          have HLT2 := Lib.hid hlt2
          obtain ⟨wl, hwl⟩ : ∃ wl, W.length = wl := ⟨_, rfl⟩
          have HWL := Lib.hid hwl
          rw [hwl] at HMW hWb
          rw [hwl]
          obtain ⟨G2, eG2⟩ : ∃ G, strOfNums T2 = G := ⟨_, rfl⟩
          obtain ⟨t2, ht2⟩ : ∃ t2, T2.length = t2 := ⟨_, rfl⟩
          have hG2s : G2.size = t2 := by rw [← eG2, strOfNums_size, ht2]
          have hcc := CodeRow.cell HCR2.out 256 (by rw [codesT_len, fixedLs_len]; omega)
          rw [fixed_code 256 (by omega)] at hcc
          obtain ⟨C2, eC2⟩ : ∃ C, strOfNums (txt 7 0) = C := ⟨_, rfl⟩
          have hcc2 : wc.cell? ⟨Cb, 256, none⟩ = some (.string C2) := by rw [hcc, ← eC2]; rfl
          have hC2s : C2.size = 7 := by rw [← eC2, strOfNums_size, txt_len]
          obtain ⟨T3, eT3⟩ : ∃ T, T2 ++ txt 7 0 = T := ⟨_, rfl⟩
          obtain ⟨G3, eG3⟩ : ∃ G, strOfNums T3 = G := ⟨_, rfl⟩
          have hadd : G2 ++ C2 = G3 := by rw [← eG2, ← eC2, nums_append, eT3, eG3]
          obtain ⟨t3, ht3⟩ : ∃ t3, T3.length = t3 := ⟨_, rfl⟩
          have ht3e : t3 = t2 + 7 := by rw [← ht3, ← eT3, List.length_append, txt_len, ht2]
          have hG3s : G3.size = t3 := by rw [← eG3, strOfNums_size, ht3]
          have HPV4 : Hid (pv T3 (0, 0) = putS 256 (pv T2 (0, 0))) := by
            show _ = _
            rw [← eT3, pv_append, pv_txt]; rfl
          have HTR3 : Hid (∀ x ∈ T3, x = 48 ∨ x = 49) := fun x hx => by
            rw [← eT3] at hx
            rcases List.mem_append.1 hx with h | h
            · exact HTR2.out x h
            · exact txt_mem _ _ x h
          have HT3L := Lib.hid ht3
          have HG3 := Lib.hid eG3
          have ht3b : t3 ≤ 3007 := by omega
          have ht3p : 3 ≤ t3 := by omega
          have ht2b : t2 ≤ 3000 := by omega
          rw [eG2]
          clear hmW hbW hlt2 hWr hTr2 hread hwl eG2 eC2 eT3 eG3 ht2 ht3 hcc hTb hT3 ht3e hli HM5 HB5 hGs
          go_wp2_with fail
          clear hcc2 hadd hC2s hG2s
          have hsz3 : w.heap.size ≤ wc.heap.size := HBC.out.size
          obtain ⟨wr0, hwr0⟩ : ∃ W, wr = W := ⟨_, rfl⟩
          have HWE := Lib.hid hwr0
          rw [hwr0] at HMW HCR R3
          clear hwr0 hBw hClt HB3
          go_loopw [14, 15] (fun vs vi wz => ∃ (i : Nat) (sv : Value), vi = .int .i64 (i : Int) ∧ i ≤ t3 ∧ vs = sv ∧ Mid wz wc.heap.size sv ((i + 7) / 8) (heldN (pv (T3.take i) (0, 0))) ∧ Below wc.heap.size wc wz) (fun _ vi _ => t3 - (intOf vi).toNat)
          case atStart => exact ⟨0, .slice none 0 0, rfl, Nat.zero_le _, rfl, (by rw [List.take_zero]; exact Mid.nil _ _), Below.refl _ _⟩
          case round =>
            obtain ⟨k, sv, rfl, hk, rfl, hms, hbs⟩ := hrel
            have HMS := Lib.hid hms
            have HBS := Lib.hid hbs
            obtain ⟨sa, sc, hsv, -, -, -⟩ := hms.shape
            subst hsv
            clear hms hbs
            by_cases hkt : k < t3
            · have hkti : (k : Int) < (t3 : Int) := by omega
              obtain ⟨bb, hbb, hget, hpvs⟩ := bit_at T3 k (by rw [HT3L.out]; exact hkt) HTR3.out
              have HPVS : Hid (pv (T3.take (k + 1)) (0, 0) = put bb 1 (pv (T3.take k) (0, 0))) := hpvs (0, 0)
              have HLV : Hid (Lt (pv (T3.take k) (0, 0))) := pv_lt _ _ (show (0 : Nat) < 2 ^ 0 by decide)
              have HV2 : Hid ((pv (T3.take k) (0, 0)).2 = k) := by
                show _ = _
                rw [pv_len, List.length_take, HT3L.out]
                show 0 + min k t3 = k
                omega
              obtain ⟨V, hV⟩ : ∃ V, pv (T3.take k) (0, 0) = V := ⟨_, rfl⟩
              rw [hV] at HPVS HLV HV2 HMS
              obtain ⟨j, hj⟩ : ∃ j, k / 8 = j := ⟨_, rfl⟩
              obtain ⟨r, hr⟩ : ∃ r, k % 8 = r := ⟨_, rfl⟩
              obtain ⟨m1, hm1⟩ : ∃ m, j + 1 = m := ⟨_, rfl⟩
              obtain ⟨n, hn⟩ : ∃ n, (k + 7) / 8 = n := ⟨_, rfl⟩
              rw [hn] at HMS
              rw [hn]
              have hr7 : r < 8 := by omega
              have hk8 : (k : Int) / 8 = (j : Int) := by omega
              have hkr : (k : Int) % 8 = (r : Int) := by omega
              have HJ : Hid (V.2 / 8 = j ∧ V.2 % 8 = r ∧ (k + 1 + 7) / 8 = m1) := by show _ ∧ _ ∧ _; rw [HV2.out]; omega
              have HM1 := Lib.hid hm1
              have hjm : j < m1 := by omega
              have hm9 : m1 ≤ 500 := by omega
              have hjI : (j : Int) < (m1 : Int) := by omega
              have hnz : r = 0 → n = j := by omega
              have hnp : r ≠ 0 → n = m1 := by omega
              have hix := index_nums T3 k _ hget (by omega) (by omega)
              rw [HG3.out] at hix
              have HIX := Lib.hid hix
              have HBB := Lib.hid hbb
              obtain ⟨wb, rfl⟩ : ∃ wb : World, wb = wc := ⟨_, rfl⟩
              have hszb : wb.heap.size ≤ wr.heap.size := HBS.out.size
              clear hbb hget hpvs hV hj hr hn hm1 hix
              go_upto_if 98 with fail
              go_cut [14] from 90 to 115 (fun vs wx => ∃ (pa : Option Addr) (pc : Nat), vs = .slice pa m1 pc ∧ Mid wx wb.heap.size (.slice pa m1 pc) m1 (bytesN V.1 m1) ∧ Below wb.heap.size wb wx)
              case first =>
                by_cases h8 : r = 0
                · obtain rfl : n = j := hnz h8
                  subst h8
                  rw [show ((0 : Nat) : Int) = 0 from rfl] at hkr
                  have HEQ : Hid (heldN V ++ [0] = bytesN V.1 m1) := by
                    show _ = _
                    rw [← held_open HLV.out HJ.out.2.1, HJ.out.1, HM1.out]
                  have HL : Hid (Bytes (wr.alloc (.cells #[.int .u8 0] 5)) (some ⟨wr.heap.size, 0, none⟩) 1 [0]) := Bytes.lit wr wr.heap.size rfl [0] 5 (0, 0) 1 rfl (by omega) (fun x hx => by rw [List.mem_singleton.1 hx]; omega)
                  have HN : Hid (Below wr.heap.size wr (wr.alloc (.cells #[.int .u8 0] 5))) := (Below.refl _ _).alloc (Nat.le_refl _) _
                  have tok : True := trivial
                  clear hnz hnp
                  go_wp2_with (
                    have _t := tok
                    at_builtin
                    refine wpList_append_to rfl _ _ 22 rfl wb.heap.size (.slice sa n sc) n (heldN V) rfl (HMS.out.below HN.out) _ 1 [0] rfl (src_bytes HL.out) m1 (bytesN V.1 m1) HM1.out HEQ.out (by omega) (Nat.le_trans hszb HN.out.size) ?_
                    intro qa qc p2 hm hb
                    have HM2 := Lib.hid hm
                    have HB2 : Hid (Below wb.heap.size wb p2) := (HBS.out.trans (HN.out.mono hszb)).trans hb
                    clear tok hm hb
                    refine Hid.out ?_)
                  refine unhid ?_
                  go_wp2_with fail
                  go_meet
                  exact ⟨qa, qc, rfl, HM2.out, HB2.out⟩
                · have hr0 : ((r : Int) == 0) = false := by simp; omega
                  have hr1 : ¬ (r : Int) = 0 := by omega
                  obtain rfl : n = m1 := hnp h8
                  have HEQ : Hid (heldN V = bytesN V.1 n) := by
                    show _ = _
                    rw [held_full (by rw [HJ.out.2.1]; exact h8), HJ.out.1, HM1.out]
                  rw [HEQ.out] at HMS
                  clear hnz hnp h8
                  go_wp2_with fail
                  go_meet
                  exact ⟨sa, sc, rfl, HMS.out, HBS.out⟩
              case rest =>
                obtain ⟨pa, pc, rfl, hmx, hbx⟩ := hcut
                have HMX := Lib.hid hmx
                have HBX := Lib.hid hbx
                rcases HBB.out with rfl | rfl
                · have hix := HIX.out
                  rw [show (48 : Int) + ((0 : Nat) : Int) = 48 from rfl] at hix
                  have HOUT : Hid (Mid wc wb.heap.size (.slice pa m1 pc) ((k + 1 + 7) / 8) (heldN (pv (T3.take (k + 1)) (0, 0)))) := by
                    show Mid _ _ _ _ _
                    rw [HPVS.out, held_zero, HJ.out.1, HM1.out, HJ.out.2.2]
                    exact HMX.out
                  clear hmx hbx hnz hnp
                  go_wp2_with fail
                  go_roundw
                  case rel => exact ⟨k + 1, .slice pa m1 pc, by go_num, by omega, rfl, HOUT.out, HBX.out⟩
                  case measure => simp [intOf]; go_num
                · have hix := HIX.out
                  rw [show (48 : Int) + ((1 : Nat) : Int) = 49 from rfl] at hix
                  obtain ⟨hh1, hh2, hh3⟩ := held_one HLV.out
                  rw [HJ.out.1] at hh1 hh2 hh3
                  rw [HJ.out.2.1] at hh1 hh3
                  obtain ⟨h, eh⟩ : ∃ h, V.1 / 2 ^ (8 * j) = h := ⟨_, rfl⟩
                  rw [eh] at hh1 hh2 hh3
                  rw [HM1.out] at hh2 hh3
                  obtain ⟨g, o, rfl⟩ := mid_some hmx (by omega)
                  have hgb := (hmx.block_ge g rfl).1
                  obtain ⟨q1, f1⟩ := mid_cell hmx j hjm
                  have hget : (bytesN V.1 m1)[j]?.getD 0 = (h : Int) := by
                    rw [hh2, List.getElem?_append_right (by rw [bytesN_len]; exact Nat.le_refl _), bytesN_len, Nat.sub_self]; rfl
                  rw [hget] at q1
                  have hor := or_bit8 r hr7 h hh1
                  obtain ⟨s, es⟩ : ∃ s, h + 2 ^ r = s := ⟨_, rfl⟩
                  rw [es] at hor hh3
                  have hq1 : (k : Int).tdiv 8 = (j : Int) := by rw [Int.tdiv_eq_ediv_of_nonneg (by omega)]; exact hk8
                  have hq2 : (k : Int).tmod 8 = (r : Int) := by rw [Int.tmod_eq_emod_of_nonneg (by omega)]; exact hkr
                  have hq3 : IntKind.i64.wrap (j : Int) = (j : Int) := IntWalk.i64_in _ (by omega)
                  have hq4 : IntKind.i64.wrap (r : Int) = (r : Int) := IntWalk.i64_in _ (by omega)
                  have hj0 : (0 : Int) ≤ (j : Int) := by omega
                  have hr0 : (0 : Int) ≤ (r : Int) := by omega
                  have HH3 := Lib.hid hh3
                  clear hmx hbx hnz hnp hh1 hh2 hh3 eh es hget
                  go_upto_region 26 with fail
                  go_still_tail 10, (by kernel_rfl)
                  change wpList _ _ _ _ _ wc.drew
                  have hbd : Below wc.heap.size wc wc.drew := (Below.refl _ _).drew
                  have hmd := HMX.out.below hbd
                  have hbd2 : Below wb.heap.size wb wc.drew := HBX.out.trans (hbd.mono HBX.out.size)
                  clear q1 f1 hbd
                  generalize wc.drew = wd at *
                  obtain ⟨q1, f1⟩ := mid_cell hmd j hjm
                  generalize (bytesN V.1 m1)[j]?.getD 0 = y0 at *
                  have hms := mid_set hmd j hjm (s : Int)
                  have HOUT : Hid (Mid (wd.setCell ⟨g, o + j, none⟩ (.int .u8 (s : Int))) wb.heap.size (.slice (some ⟨g, o, none⟩) m1 pc) ((k + 1 + 7) / 8) (heldN (pv (T3.take (k + 1)) (0, 0)))) := by
                    show Mid _ _ _ _ _
                    rw [HPVS.out, HH3.out, HJ.out.2.2]
                    exact hms
                  have HBO : Hid (Below wb.heap.size wb (wd.setCell ⟨g, o + j, none⟩ (.int .u8 (s : Int)))) := hbd2.setCell (by exact hgb) _
                  clear hms hmd hbd2 hq1 hq2 hq3 hq4
                  go_wp2_with fail
                  go_roundw
                  case rel => exact ⟨k + 1, .slice (some ⟨g, o, none⟩) m1 pc, by go_num, by omega, rfl, HOUT.out, HBO.out⟩
                  case measure => simp [intOf]; go_num
            · have hkti : ¬ (k : Int) < (t3 : Int) := by omega
              obtain rfl : k = t3 := by omega
              have HV : Hid ((pv T3 (0, 0)).2 = k) := by show _ = _; rw [pv_len, HT3L.out]; omega
              have HRAW : Hid (rawOf (heldN (pv T3 (0, 0))) 1000 = .ok (k, W)) := by
                show _ = _
                have hl := pv_lt T3 (0, 0) (show (0 : Nat) < 2 ^ 0 by decide)
                have he : Ext (pv T3 (0, 0)) (pv T3 (0, 0)).1 := ⟨0, by omega⟩
                have hp := HPV4.out
                have hrd := HREAD.out (pv T3 (0, 0)).1 (8 * (((pv T3 (0, 0)).2 + 7) / 8)) (by rw [← hp]; exact he) (by rw [← hp]; omega)
                rw [← hp] at hrd
                have := raw_of_bits hl hrd.1 (by rw [HV.out]; exact ht3p) hrd.2
                unfold heldN
                rw [this, HV.out]
              have HTK : Hid (T3.take k = T3) := List.take_of_length_le (by rw [HT3L.out]; exact Nat.le_refl _)
              have HMS2 : Hid (Mid wr wc.heap.size (.slice sa ((k + 7) / 8) sc) ((k + 7) / 8) (heldN (pv T3 (0, 0)))) := by
                have h := HMS.out
                rw [HTK.out] at h
                exact h
              obtain ⟨kk, hkk⟩ : ∃ kk, (k + 7) / 8 = kk := ⟨_, rfl⟩
              have HKK := Lib.hid hkk
              rw [hkk] at HMS2
              rw [hkk]
              have hkk9 : kk ≤ 400 := by omega
              have HROW := Lib.hid (HMS2.out.row (range_of_mem0 (bytesN_range _ _)))
              have hrw := raw_row sa kk sc (heldN (pv T3 (0, 0))) 1000 1000 wr HROW.out (by omega) rfl (by omega)
              clear hkk
              go_wp2_with fail
              refine hrw.mono ?_
              rintro e w9 (⟨q, m, ya, yc, hr, rfl, hrow, hmm, hb, -⟩ | ⟨er, hr, hk, rfl, hb⟩)
              · rw [HRAW.out] at hr
                injection hr with hr
                injection hr with h1 h2
                subst h1 h2
                rw [HKK.out, HWL.out]
                rw [HWL.out] at hrow
                have HY := Lib.hid hrow
                have HWM := Lib.hid ((HMW.out.below HBS.out).below hb)
                have HB9 : Hid (Below w.heap.size w w9) := HBC.out.trans ((HBS.out.mono hsz3).trans (hb.mono (Nat.le_trans hsz3 HBS.out.size)))
                clear hrow hb hrw
                go_wp2_with fail
                refine (known_any w9).mono ?_
                rintro e w10 ⟨rfl, hb10⟩
                have t1 := text_run w10 ya wl yc W (HY.out.below hb10).bytes
                have t2 := text_run w10 pb wl pd W ((HWM.out.below hb10).row (range_of_mem0 HWR.out)).bytes
                have HB10 : Hid (Below w.heap.size w w10) := HB9.out.trans (hb10.mono HB9.out.size)
                clear hb10 HY HWM HB9
                go_wp2_with fail
                go_ret
                exact ⟨rfl, HB10.out⟩
              · rw [HRAW.out] at hr; cases hr

/-! ### The row's step -/
set_option maxRecDepth 100000 in
theorem lifted (os : Os) (started : os.Started) (H : Type) (enc : TypeId × Value → H) :
    ReturnsInHanded {} Try.checked os 3 .any (Rows.inflateFixedSpec.pre6 enc Try.prog Try.f3 Rows.inflateFixedRow.domain false) (Rows.inflateFixedSpec.post enc Try.prog Try.f3 false true false false) := by
  refine returnsInHanded_of_change (C := Try.checked) own started (by kernel_rfl) Try.func3
    (ChangeSpec.witness6 (enc := enc) (C := Try.checked) false ⟨#[], #[.slice none 0 0, .int .i64 0], []⟩ 8 (by kernel_rfl) (by kernel_rfl) (by kernel_rfl) (by kernel_rfl)) ?_
  intro W base args ds gs before hval0 hW hcnd _
  have hval : ∀ (j : Nat) t v, Try.f3.params[j]? = some t → args[j]? = some v → Value.okWide Try.prog W .any base t v := hval0
  have hW' := hW
  obtain ⟨p, q, hA0, hV, rfl, hfz, hnd⟩ := hW
  have hA : DataW.TrodAll enc Try.prog W 0 (fun _ => true) true Try.f3.params.toList args.toList ds p := hA0
  rw [Try.params3] at hA hval
  obtain ⟨v0, vs0, d0, ds0, p0, q0, hargs, rfl, rfl, h0, r0⟩ := trodAll_cons hA
  obtain ⟨v1, vs1, d1, ds1, p1, q1, rfl, rfl, rfl, h1, r1⟩ := trodAll_cons r0
  obtain ⟨rfl, rfl, rfl⟩ := trodAll_nil r1
  obtain rfl : args = #[v0, v1] := by cases args; simp_all
  obtain ⟨rfl, rfl⟩ := trodVars_none hV
  obtain ⟨a0, len0, cap0, rfl⟩ := okWide_slice Try.underlying22 (hval 0 22 v0 rfl rfl)
  have k0 := h0
  have lt0 : ∀ x ∈ p0, x.block < W.heap.size := by obtain ⟨m, hm⟩ := k0; exact DataW.trod_lt m _ _ _ hm
  obtain ⟨z0, w0⟩ : ∃ zs, IsRow .u8 W a0 len0 cap0 zs := by
    obtain ⟨fuel, hf⟩ := h0
    rcases open_ints Try.underlying22 Try.underlying5 (by kernel_rfl) hf with ⟨hcs, _⟩ | ⟨x, l, c, zs, hcs, _, hl, hm, hz, _, hcell, hwz⟩
    · simp [Value.cells] at hcs
      obtain ⟨rfl, rfl, rfl⟩ := hcs
      exact ⟨[], .inl ⟨rfl, rfl, rfl, rfl⟩⟩
    · simp [Value.cells] at hcs
      obtain ⟨rfl, rfl, rfl⟩ := hcs
      exact ⟨zs, .inr ⟨_, rfl, hl, hm, by simpa using hz, hcell, hwz⟩⟩
  obtain ⟨a1, rfl, rfl, rfl, w1⟩ := open_int Try.underlying3 (hval 1 3 v1 rfl rfl) h1
  refine (walk a0 len0 cap0 z0 a1 W w0 w1).mono fun e W' ⟨he, bel⟩ => ?_
  subst he
  exact ⟨_, rfl, _, _, _, [], _, [], hW', trodAll_mk1 (shut_bool Try.underlying4 _), (trodAll_cons_mk (Below.trod laidOut (by kernel_rfl) (of_decide_eq_true (by kernel_rfl)) k0 bel lt0) (trodAll_cons_mk (shut_int Try.underlying3 w1) trodAll_mk0)), rfl, bel.frame _, fun h => by cases h⟩

theorem over : Rows.inflateFixedRow.holds Try.pinned (OpenSpec.ofChange Rows.inflateFixedSpec) :=
  OpenClaim.holds_of_wide 3 Try.f3 rfl rfl rfl rfl rfl rfl rfl ⟨rfl, rfl, rfl, rfl, rfl⟩ rfl rfl rfl rfl rfl (by kernel_rfl) Try.func3 (by kernel_rfl)
    (of_decide_eq_true (by kernel_rfl)) (by unfold Func.isWrapper; first | (rw [if_pos (by decide +kernel)]; kernel_rfl) | (rw [if_neg (by decide +kernel)]; exact ⟨rfl, rfl⟩))
    (fun os started H enc _ => lifted os started H enc)

/-- The statement. -/
theorem proved : Rows.InflateFixedSaid := over
#print axioms proved
end Go.Proofs.Ytmdgpabmknigmaa.inflateFixed
