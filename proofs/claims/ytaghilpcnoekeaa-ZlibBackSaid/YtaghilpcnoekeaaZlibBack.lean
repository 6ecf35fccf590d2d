/- The program's statement ZlibBack holds: for every input it returns true and leaves its arguments as they were. No further condition. -/
import Derived.Test.YtaghilpcnoekeaaRows
import Derived.WalkKit
import Derived.ProofKit
import Derived.OpenShut
import Derived.ShutString
import Derived.ChangeOld
import Derived.Below
import Derived.StillTailTactics
import Derived.Deep.RegionHeld3
import Derived.Deep.AppendLies
import Derived.StillTactics
import Derived.Deep.RegionWith
import Derived.WalkSpells
import Derived.Outline
import Derived.Test.YtaghilpcnoekeaaWrapBack
namespace Go.Proofs.Ytaghilpcnoekeaa.zlibBack
open Go.ChangeShapes Go.WideShapes Go.ChangeAt Go.RowKit
open Go.ChangeMaps (open_string shut_string)
set_option linter.unusedVariables false

theorem own : ownKnob Try.prog.godebug = none := by kernel_rfl
theorem laidOut : laidOutB Try.prog = true := by kernel_rfl

/-- A slice of integers that came in: nil, or a row of cells. -/
def IsRow (k : IntKind) (w : World) (a : Option Addr) (len cap : Nat) (zs : List Int) : Prop :=
  (a = none ∧ len = 0 ∧ cap = 0 ∧ zs = []) ∨
  ∃ x, a = some x ∧ len ≤ cap ∧ cap ≤ maxLen ∧ zs.length = cap ∧ (∀ i, i < zs.length → w.cell? (x.add i) = some (.int k (zs.getD i 0))) ∧ ∀ n ∈ zs, (Lit.int k n).wf = true
open Plain
theorem wp_via {P : Program} {c : Code} {Q : Exit → Act → World → Prop} {a : Act} {w : World} (A : Act) (W : World) (h1 : c.wp P (fun e a' w' => e = .normal ∧ a' = A ∧ w' = W) a w) (h2 : Q .normal A W) : c.wp P Q a w := by
  refine wp_mono h1 fun e a' w' ⟨he, ha, hw⟩ => ?_
  subst he ha hw
  exact h2
/-! ### The walk -/
set_option maxRecDepth 100000 in
set_option maxHeartbeats 32000000 in
theorem walk {H : Type} {enc : TypeId × Value → H} (base : Nat) (a0 : Option Addr) (len0 cap0 : Nat) (z0 : List Int) (a1 : Option Addr) (len1 cap1 : Nat) (z1 : List Int) (v2 : Value) (d2 : DataW H) (p2 : List MemPlace) (a3 : Int) (w : World) (w0 : IsRow .u8 w a0 len0 cap0 z0) (w1 : IsRow .u8 w a1 len1 cap1 z1) (ok2 : Value.okWide Try.prog w .any base 32 v2) (rd2 : DataW.Trod enc Try.prog w 0 (fun _ => true) true 32 v2 d2 p2) (w3 : (Lit.int .i64 a3).wf = true) :
    Calls Try.prog 5 #[.slice a0 len0 cap0, .slice a1 len1 cap1, v2, .int .i64 a3] w fun e w' => e = .returned (.bool true) ∧ Below w.heap.size w w' := by
  obtain ⟨hr0, hlc0, hcm0⟩ := row_in w0 2000
  obtain ⟨hr1, hlc1, hcm1⟩ := row_in w1 2000
  obtain ⟨zs, rfl, hz4, hzb⟩ := open_array_u8 Try.underlying32 (by kernel_rfl) ok2 rd2
  obtain ⟨n, hn⟩ : ∃ m, min len0 2000 = m := ⟨_, rfl⟩
  obtain ⟨m1, hm1⟩ : ∃ m, min len1 2000 = m := ⟨_, rfl⟩
  have k0 : n ≤ 2000 := by omega
  have kc : n ≤ cap0 := by omega
  have k1 : m1 ≤ 2000 := by omega
  have kc1 : m1 ≤ cap1 := by omega
  have hmin : ∀ W : World, Sem.run Try.prog (Builtin.min_ #[3, 3] 3 #[.int .i64 (len0 : Int), .int .i64 2000]) W = .ok (.int .i64 (n : Int)) W := fun W => by
    rw [run_min2, show min (len0 : Int) 2000 = (n : Int) by omega]
  have hmin1 : ∀ W : World, Sem.run Try.prog (Builtin.min_ #[3, 3] 3 #[.int .i64 (len1 : Int), .int .i64 2000]) W = .ok (.int .i64 (m1 : Int)) W := fun W => by
    rw [run_min2, show min (len1 : Int) 2000 = (m1 : Int) by omega]
  rw [hn] at hr0
  rw [hm1] at hr1
  have R0 := Lib.hid hr0
  have R1 := Lib.hid hr1
  have HZ4 := Lib.hid hz4
  have HZB := Lib.hid hzb
  clear w0 w1 w3 ok2 rd2 hr0 hr1 hn hm1 hz4 hzb
  generalize (z0.take len0).take 2000 = xs at *
  generalize (z1.take len1).take 2000 = ms at *
  have HXL : Hid (xs.length = n) := R0.out.len
  have HXM : Hid (∀ x ∈ xs, 0 ≤ x ∧ x ≤ 255) := R0.out.mem
  have h30 : xs.length ≤ 30000 := by rw [HXL.out]; omega
  have hop := wrap_open HXM.out h30 ms R1.out.mem
  have hcut := fun k (h : k < (wrapN xs).length) => wrap_cut HXM.out h30 h
  have hless := fun h => wrap_less HXM.out h30 h
  have hfr := fun t ht htr => frameAt (t := t) ht htr HXM.out h30 [] (by simp)
  have hwn : wrapN xs = [120, 156] ++ rawPack xs ++ tail4 xs := rfl
  have hwm := wrapN_mem xs HXM.out
  have hpm := rawPack_mem xs HXM.out
  have hple := rawPack_le xs h30
  have hwr := fun W (h : RowB W a0 n cap0 xs) => wrap_any a0 n cap0 xs W h (by omega)
  have hwl := wrapN_len xs
  rw [HXL.out] at hop hcut hless hfr hple
  generalize wrapN xs = WN at *
  generalize rawPack xs = P at *
  generalize hpl : P.length = pl at *
  generalize hwlw : WN.length = wl at *
  have HWLW := Lib.hid hwlw
  have HPL := Lib.hid hpl
  have HOP := Lib.hid hop
  have HCUT := Lib.hid hcut
  have HLESS := Lib.hid hless
  have HFR := Lib.hid hfr
  have HWN := Lib.hid hwn
  have HWM := Lib.hid hwm
  have HPM := Lib.hid hpm
  have HWR := Lib.hid hwr
  have hwl0 : 0 < wl := by omega
  have hwl9 : wl ≤ 3000 := by omega
  obtain ⟨t0, ht0⟩ : ∃ t0, 2 + pl = t0 := ⟨_, rfl⟩
  have hwt : wl = t0 + 4 := by omega
  have HT0 := Lib.hid ht0
  have HWT := Lib.hid hwt
  have hw4 : (wl : Int) - 4 = (t0 : Int) := by omega
  obtain ⟨k, hk, et⟩ : ∃ k : Nat, k < wl ∧ wrap64 ((IntKind.u64.wrap a3).tmod (wl : Int)) = (k : Int) := by
    have h0 : 0 ≤ IntKind.u64.wrap a3 := by rw [IntKind.wrap_u64]; omega
    generalize IntKind.u64.wrap a3 = u at *
    rw [Int.tmod_eq_emod_of_nonneg h0]
    have h1 := Int.emod_nonneg u (show (wl : Int) ≠ 0 by omega)
    have h2 := Int.emod_lt_of_pos u (show (0 : Int) < (wl : Int) by omega)
    rw [IntWalk.wrap64_in _ (by omega)]
    exact ⟨(u % (wl : Int)).toNat, by omega, by omega⟩
  have hu : IntKind.u64.wrap (wl : Int) = (wl : Int) := by rw [IntKind.wrap_u64]; omega
  have hwl0' : ¬ ((wl : Int) = 0) := by omega
  have HU := Lib.hid hu
  have HET := Lib.hid et
  clear hop hcut hless hfr hwn hwm hpm hwr hwl hpl hwlw ht0 hu et h30 hple hwt
  obtain ⟨arr, harr⟩ : ∃ arr, (zs.map (Value.int .u8)).toArray = arr := ⟨_, rfl⟩
  rw [harr]
  have HARR := Lib.hid harr
  clear harr
  go_enter Try.func5, Try.ntmps5
  go_wp2_with fail
  apply wp_via
  · go_region_held3 (fun _ => True) (trivial) (fail)
    all_goals exact ⟨rfl, rfl, rfl⟩
  have HD : Hid (Below w.heap.size w (w.alloc (.cells arr 32)).drew) := ((Below.refl _ _).alloc (Nat.le_refl _) _).drew
  have HTB : Hid ((w.alloc (.cells arr 32)).drew.heap[w.heap.size]? = some (.cells arr 32 (0, 0))) := by
    show (w.heap.push _)[w.heap.size]? = _
    simp
  have Q0 := Lib.hid (R0.out.below HD.out)
  have Q1 := Lib.hid (R1.out.below HD.out)
  generalize (w.alloc (.cells arr 32)).drew = wd at *
  clear R0 R1 hmin hmin1
  go_wp2_with fail
  refine (HWR.out wd Q0.out).mono ?_
  rintro e w2 ⟨⟨va, vc, rfl, hrow, -⟩, hb⟩
  have HV := Lib.hid hrow
  have S0 := Lib.hid (Q0.out.below hb)
  have S1 := Lib.hid (Q1.out.below hb)
  have HB2 : Hid (Below w.heap.size w w2) := HD.out.trans (hb.mono HD.out.size)
  have HTB2 : Hid (w2.heap[w.heap.size]? = some (.cells arr 32 (0, 0))) := (hb.block _ (Array.getElem?_eq_some_iff.1 HTB.out).1).trans HTB.out
  clear hrow hb Q0 Q1 HD HTB
  have HAL : Hid (Below w2.heap.size w2 (w2.alloc (.cells #[] 5))) := (Below.refl _ _).alloc (Nat.le_refl _) _
  have HE : Hid (Mid (w2.alloc (.cells #[] 5)) w2.heap.size (.slice (some ⟨w2.heap.size, 0, none⟩) 0 0) 0 []) := by
    refine ⟨rfl, .inr ⟨w2.heap.size, 0, 0, rfl, Nat.le_refl _, by simp, by omega, by omega, fun j v h => by simp [U8] at h, fun j h => by omega⟩⟩
  have tok : True := trivial
  go_wp2_with (
    have _t := tok
    at_builtin
    refine wpList_append_to rfl _ _ 22 rfl w2.heap.size (.slice (some ⟨w2.heap.size, 0, none⟩) 0 0) 0 [] rfl HE.out _ wl WN rfl (src_bytes (HV.out.below HAL.out).bytes) wl WN (by omega) rfl (by omega) HAL.out.size ?_
    intro ga gc p5 hm hb
    have HM4 := Lib.hid hm
    have HB7 : Hid (Below w2.heap.size w2 p5) := HAL.out.trans hb
    clear tok hm hb HE HAL
    refine Hid.out ?_)
  refine unhid ?_
  have tok : True := trivial
  go_wp2_with (
    have _t := tok
    at_builtin
    refine wpList_append_to rfl _ _ 22 rfl w2.heap.size (.slice ga wl gc) wl WN rfl HM4.out _ m1 ms rfl (src_bytes (S1.out.below HB7.out).bytes) (wl + m1) (WN ++ ms) rfl rfl (by omega) HB7.out.size ?_
    intro ha hc p6 hm hb
    have HP := Lib.hid (hm.row (range_append HV.out.range S1.out.range))
    have HB8 : Hid (Below w2.heap.size w2 p6) := HB7.out.trans hb
    clear tok hm hb HM4 HB7
    refine Hid.out ?_)
  refine unhid ?_
  have V6 := Lib.hid (HV.out.below HB8.out)
  have X6 := Lib.hid (S0.out.below HB8.out)
  have HB9 : Hid (Below w.heap.size w p6) := HB2.out.trans (HB8.out.mono HB2.out.size)
  have HTB6 : Hid (p6.heap[w.heap.size]? = some (.cells arr 32 (0, 0))) := (HB8.out.block _ (Array.getElem?_eq_some_iff.1 HTB2.out).1).trans HTB2.out
  clear HB8 HB2 HV S0 S1 HTB2
  go_wp2_with fail
  refine (open_any ha (wl + m1) hc (WN ++ ms) (n : Int) n p6 HP.out (by omega) rfl (by omega)).mono ?_
  rintro e w3 (⟨q', m', za, zc, hr, rfl, hrow, -, hb, -⟩ | ⟨k', hr, hk', rfl, hb⟩)
  rotate_left
  · rw [HOP.out] at hr; cases hr
  rw [HOP.out] at hr
  injection hr with hr
  injection hr with h1 h2
  subst h1 h2
  rw [HXL.out] at hrow ⊢
  have HZ := Lib.hid hrow
  have V7 := Lib.hid (V6.out.below hb)
  have X7 := Lib.hid (X6.out.below hb)
  have HB10 : Hid (Below w.heap.size w w3) := HB9.out.trans (hb.mono HB9.out.size)
  have HTB7 : Hid (w3.heap[w.heap.size]? = some (.cells arr 32 (0, 0))) := (hb.block _ (Array.getElem?_eq_some_iff.1 HTB6.out).1).trans HTB6.out
  clear hrow hb V6 X6 HB9 HTB6 HP
  go_wp2_with fail
  refine (known_any w3).mono ?_
  rintro e w5 ⟨rfl, hb⟩
  have t1 := text_run w5 za n zc xs (HZ.out.below hb).bytes
  have t2 := text_run w5 a0 n cap0 xs (X7.out.below hb).bytes
  have V8' := Lib.hid (V7.out.below hb)
  have X8 := Lib.hid (X7.out.below hb)
  have HB11 : Hid (Below w.heap.size w w5) := HB10.out.trans (hb.mono HB10.out.size)
  have HTB8 : Hid (w5.heap[w.heap.size]? = some (.cells arr 32 (0, 0))) := (hb.block _ (Array.getElem?_eq_some_iff.1 HTB7.out).1).trans HTB7.out
  have HAL : Hid (Below w5.heap.size w5 (w5.alloc (.cells #[] 5))) := (Below.refl _ _).alloc (Nat.le_refl _) _
  have HE : Hid (Mid (w5.alloc (.cells #[] 5)) w5.heap.size (.slice (some ⟨w5.heap.size, 0, none⟩) 0 0) 0 []) := by
    refine ⟨rfl, .inr ⟨w5.heap.size, 0, 0, rfl, Nat.le_refl _, by simp, by omega, by omega, fun j v h => by simp [U8] at h, fun j h => by omega⟩⟩
  clear hb HZ V7 X7 HB10 HTB7
  have tok : True := trivial
  go_wp2_with (
    have _t := tok
    at_builtin
    refine wpList_append_to rfl _ _ 22 rfl w5.heap.size (.slice (some ⟨w5.heap.size, 0, none⟩) 0 0) 0 [] rfl HE.out _ wl WN rfl (src_bytes (V8'.out.below HAL.out).bytes) wl WN (by omega) rfl (by omega) HAL.out.size ?_
    intro ca cc p7 hm hb
    have HC := Lib.hid hm
    have HBC : Hid (Below w5.heap.size w5 p7) := HAL.out.trans hb
    clear tok hm hb HE HAL
    refine Hid.out ?_)
  refine unhid ?_
  clear t1 t2
  obtain ⟨g, o, rfl⟩ : ∃ g o, ca = some ⟨g, o, none⟩ := by
    obtain ⟨-, ⟨h1, h2⟩ | ⟨g, o, cap, h1, -⟩⟩ := HC.out
    · omega
    · simp only [Value.slice.injEq] at h1; exact ⟨g, o, h1.1⟩
  have HTR : Hid (∀ j : Nat, 0 ≤ (tail4 xs)[j]?.getD 0 ∧ (tail4 xs)[j]?.getD 0 ≤ 255) := range_of_mem0 (tail4_range xs)
  have HZR : Hid (∀ j : Nat, 0 ≤ zs[j]?.getD 0 ∧ zs[j]?.getD 0 ≤ 255) := range_of_mem0 HZB.out
  have HX0 : Hid (([120, 156] ++ P) ++ xorN (tail4 xs) zs 0 = WN) := by show _ = _; rw [xorN_zero _ _ rfl, HWN.out]
  go_wp2_with fail
  go_loopw [14, 15] (fun vs vi wr => ∃ i : Nat, vi = .int .i64 (i : Int) ∧ i ≤ 4 ∧ vs = .bool (noughtN zs i) ∧ Mid wr w5.heap.size (.slice (some ⟨g, o, none⟩) wl cc) wl (([120, 156] ++ P) ++ xorN (tail4 xs) zs i) ∧ Below w5.heap.size w5 wr) (fun _ vi _ => 4 - (intOf vi).toNat)
  case atStart => exact ⟨0, rfl, by omega, rfl, by rw [HX0.out]; exact HC.out, HBC.out⟩
  case round =>
    obtain ⟨i, rfl, hi, rfl, hm, hb⟩ := hrel
    have HM := Lib.hid hm
    have HB := Lib.hid hb
    have hsz : w5.heap.size ≤ wr.heap.size := hb.size
    clear hm hb HC HBC HX0
    by_cases hlt : i < 4
    · have hli : (i : Int) < 4 := by omega
      obtain ⟨t, ht⟩ : ∃ t, t0 + i = t := ⟨_, rfl⟩
      have hti : (t0 : Int) + (i : Int) = (t : Int) := by omega
      have htw : t < wl := by have := HWT.out; omega
      have htwi : (t : Int) < (wl : Int) := by omega
      have hpre : (([120, 156] ++ P)).length = t0 := by rw [List.length_append, HPL.out]; exact HT0.out
      have HGET : Hid ((([120, 156] ++ P) ++ xorN (tail4 xs) zs i)[t]?.getD 0 = (tail4 xs)[i]?.getD 0) := by
        show _ = _
        rw [pre_get _ _ t i (by rw [hpre]; exact ht), xorN_get _ _ _ hlt]
      have HSET : Hid ((([120, 156] ++ P) ++ xorN (tail4 xs) zs i).set t (bits .xor .u8 ((tail4 xs)[i]?.getD 0) (zs[i]?.getD 0)) = ([120, 156] ++ P) ++ xorN (tail4 xs) zs (i + 1)) := by
        show _ = _
        rw [pre_set _ _ t i _ (by rw [hpre]; exact ht), xorN_set _ _ _ hlt]
      have HNT : Hid (noughtN zs (i + 1) = (noughtN zs i && zs[i]?.getD 0 == 0)) := noughtN_succ zs i (by rw [HZ4.out]; exact hlt)
      have kc1' : wr.cell? ⟨g, o + t, none⟩ = some (.int .u8 ((tail4 xs)[i]?.getD 0)) := by
        rw [← HGET.out]; exact (HM.out.cellAt' t htw).1
      have kf1 : wr.frozen? ⟨g, o + t, none⟩ = false := (HM.out.cellAt' t htw).2
      have HTBr : Hid (wr.heap[w.heap.size]? = some (.cells arr 32 (0, 0))) := (HB.out.block _ (Array.getElem?_eq_some_iff.1 HTB8.out).1).trans HTB8.out
      have hgne : w.heap.size ≠ g := by
        have h1 := (Array.getElem?_eq_some_iff.1 HTB8.out).1
        have h2 := (Mid.block_ge HM.out g rfl).1
        omega
      have tc : ∀ W : World, W.heap[w.heap.size]? = some (.cells arr 32 (0, 0)) → W.cell? ⟨w.heap.size, i, none⟩ = some (.int .u8 (zs[i]?.getD 0)) := fun W hW => by
        unfold World.cell?
        simp only []
        rw [hW]
        show arr[i]? = _
        rw [← HARR.out]
        simp [List.getElem?_eq_getElem (show i < zs.length by rw [HZ4.out]; exact hlt)]
      have kt := tc wr HTBr.out
      have HTC := Lib.hid tc
      have HZI := HZR.out i
      have HTI := HTR.out i
      clear ht hpre HGET tc
      generalize (tail4 xs)[i]?.getD 0 = y at *
      generalize zs[i]?.getD 0 = z at *
      generalize hxr : ([120, 156] ++ P) ++ xorN (tail4 xs) zs i = CI at *
      go_wp2_with fail
      go_region
      have HM2 : Hid (Mid (wr.setCell ⟨g, o + t, none⟩ (.int .u8 (bits .xor .u8 y z))).drew w5.heap.size (.slice (some ⟨g, o, none⟩) wl cc) wl (([120, 156] ++ P) ++ xorN (tail4 xs) zs (i + 1))) := by
        have := HM.out.set t htw (bits .xor .u8 y z)
        rw [HSET.out] at this
        exact this.below (Below.refl _ _).drew
      have HB2 : Hid (Below w5.heap.size w5 (wr.setCell ⟨g, o + t, none⟩ (.int .u8 (bits .xor .u8 y z))).drew) := (HB.out.setCell (by show _ ≤ g; exact (Mid.block_ge HM.out g rfl).1) _).drew
      have kt2 := HTC.out (wr.setCell ⟨g, o + t, none⟩ (.int .u8 (bits .xor .u8 y z))).drew ((Below.heap_setCell wr _ _ _ (by show w.heap.size ≠ g; exact hgne)).trans HTBr.out)
      clear kc1' kf1 kt HM HB hsz HSET hxr HTBr
      generalize (wr.setCell ⟨g, o + t, none⟩ (.int .u8 (bits .xor .u8 y z))).drew = w8 at *
      generalize noughtN zs i = A at *
      cases A
      · go_wp2_with fail
        go_roundw
        case rel => exact ⟨i + 1, by go_num, by omega, by rw [HNT.out]; rfl, HM2.out, HB2.out⟩
        case measure => simp [intOf]; go_num
      · go_wp2_with fail
        go_roundw
        case rel => exact ⟨i + 1, by go_num, by omega, by rw [HNT.out]; rfl, HM2.out, HB2.out⟩
        case measure => simp [intOf]; go_num
    · have hi4 : i = 4 := by omega
      subst hi4
      have hsame := xorN_all (tail4 xs) zs rfl HZ4.out HTR.out HZR.out
      have hxr4 := xorN_range (tail4 xs) zs HTR.out HZR.out 4
      have hfr4 := HFR.out (xorN (tail4 xs) zs 4) (xorN_len _ _ _) hxr4
      rw [List.append_nil] at hfr4
      have HC4 := Lib.hid (HM.out.row (range_of_mem0 (fun x hx => by
        rcases List.mem_append.1 hx with hx | hx
        · rcases List.mem_append.1 hx with hx | hx
          · simp only [List.mem_cons, List.mem_nil_iff, or_false] at hx
            rcases hx with rfl | rfl <;> omega
          · exact HPM.out x hx
        · exact hxr4 x hx)))
      have V9 := Lib.hid (V8'.out.below HB.out)
      have X9 := Lib.hid (X8.out.below HB.out)
      have HB12 : Hid (Below w.heap.size w wr) := HB11.out.trans (HB.out.mono HB11.out.size)
      have HSAME : Hid (noughtN zs 4 = true → openN (([120, 156] ++ P) ++ xorN (tail4 xs) zs 4) n = .ok (2 + pl + 4, xs)) := fun h => by rw [hfr4, if_pos (hsame.2 h)]
      have HDIFF : Hid (noughtN zs 4 = false → openN (([120, 156] ++ P) ++ xorN (tail4 xs) zs 4) n = .error 5) := fun h => by rw [hfr4, if_neg (fun e => by rw [hsame.1 e] at h; cases h)]
      clear hsame hxr4 hfr4 HM HB V8' X8 HB11 HTB8
      generalize ([120, 156] ++ P) ++ xorN (tail4 xs) zs 4 = C4 at *
      generalize noughtN zs 4 = A at *
      have et := HET.out
      have hu := HU.out
      have hkc : k ≤ vc := by have := V9.out.le; omega
      have hcut := HCUT.out k hk
      have HCT := Lib.hid hcut
      clear hcut
      cases A with
      | true =>
        have HF4 := Lib.hid (HSAME.out rfl)
        go_wp2_with fail
        refine (open_any (some ⟨g, o, none⟩) wl cc C4 (n : Int) n wr HC4.out (by omega) rfl (by omega)).mono ?_
        rintro e w9 (⟨q', m', ya, yc, hr, rfl, hrow, -, hb, -⟩ | ⟨k', hr, hk', rfl, hb⟩)
        rotate_left
        · rw [HF4.out] at hr; cases hr
        clear hr hrow HF4
        have V10 := Lib.hid (V9.out.below hb)
        have HB13 : Hid (Below w.heap.size w w9) := HB12.out.trans (hb.mono HB12.out.size)
        clear hb V9 X9 HB12 HC4
        go_wp2_with fail
        refine (open_any va k vc (WN.take k) (n : Int) n w9 ⟨hkc, V10.out.cap, V10.out.nil, V10.out.first k (by omega)⟩ (by omega) rfl (by omega)).mono ?_
        rintro e w10 (⟨q', m', ya, yc, hr, rfl, hrow, -, hb, -⟩ | ⟨k', hr, hk', rfl, hb⟩)
        · rw [HCT.out] at hr; cases hr
        rw [HCT.out] at hr
        injection hr with hr
        subst hr
        have V11 := Lib.hid (V10.out.below hb)
        have HB14 : Hid (Below w.heap.size w w10) := HB13.out.trans (hb.mono HB13.out.size)
        clear hb V10 HB13
        have hwn1 : wrap64 ((n : Int) - 1) = (n : Int) - 1 := IntWalk.wrap64_in _ (by omega)
        go_wp2_with fail
        refine (open_any va wl vc WN ((n : Int) - 1) (n - 1) w10 V11.out (by omega) (by omega) (by omega)).mono ?_
        clear hwn1
        by_cases hn0 : n = 0
        · subst hn0
          rintro e w11 (⟨q', m', ya, yc, hr, rfl, hrow, -, hb, -⟩ | ⟨k', hr, hk', rfl, hb⟩)
          · have HB15 : Hid (Below w.heap.size w w11) := HB14.out.trans (hb.mono HB14.out.size)
            clear hb hrow hr
            go_wp2_with fail
            go_ret
            exact ⟨rfl, HB15.out⟩
          · have HB15 : Hid (Below w.heap.size w w11) := HB14.out.trans (hb.mono HB14.out.size)
            clear hb hr
            go_wp2_with fail
            go_ret
            exact ⟨rfl, HB15.out⟩
        · have hle := HLESS.out (by omega)
          rintro e w11 (⟨q', m', ya, yc, hr, rfl, hrow, -, hb, -⟩ | ⟨k', hr, hk', rfl, hb⟩)
          · rw [hle] at hr; cases hr
          · rw [hle] at hr
            injection hr with hr
            subst hr
            have HB15 : Hid (Below w.heap.size w w11) := HB14.out.trans (hb.mono HB14.out.size)
            have hn0i : ¬ ((n : Int) = 0) := by omega
            clear hb hle
            go_wp2_with fail
            go_ret
            exact ⟨rfl, HB15.out⟩
      | false =>
        have HF4 := Lib.hid (HDIFF.out rfl)
        go_wp2_with fail
        refine (open_any (some ⟨g, o, none⟩) wl cc C4 (n : Int) n wr HC4.out (by omega) rfl (by omega)).mono ?_
        rintro e w9 (⟨q', m', ya, yc, hr, rfl, hrow, -, hb, -⟩ | ⟨k', hr, hk', rfl, hb⟩)
        · rw [HF4.out] at hr; cases hr
        rw [HF4.out] at hr
        injection hr with hr
        subst hr
        clear HF4
        have V10 := Lib.hid (V9.out.below hb)
        have HB13 : Hid (Below w.heap.size w w9) := HB12.out.trans (hb.mono HB12.out.size)
        clear hb V9 X9 HB12 HC4
        go_wp2_with fail
        refine (open_any va k vc (WN.take k) (n : Int) n w9 ⟨hkc, V10.out.cap, V10.out.nil, V10.out.first k (by omega)⟩ (by omega) rfl (by omega)).mono ?_
        rintro e w10 (⟨q', m', ya, yc, hr, rfl, hrow, -, hb, -⟩ | ⟨k', hr, hk', rfl, hb⟩)
        · rw [HCT.out] at hr; cases hr
        rw [HCT.out] at hr
        injection hr with hr
        subst hr
        have V11 := Lib.hid (V10.out.below hb)
        have HB14 : Hid (Below w.heap.size w w10) := HB13.out.trans (hb.mono HB13.out.size)
        clear hb V10 HB13
        have hwn1 : wrap64 ((n : Int) - 1) = (n : Int) - 1 := IntWalk.wrap64_in _ (by omega)
        go_wp2_with fail
        refine (open_any va wl vc WN ((n : Int) - 1) (n - 1) w10 V11.out (by omega) (by omega) (by omega)).mono ?_
        clear hwn1
        by_cases hn0 : n = 0
        · subst hn0
          rintro e w11 (⟨q', m', ya, yc, hr, rfl, hrow, -, hb, -⟩ | ⟨k', hr, hk', rfl, hb⟩)
          · have HB15 : Hid (Below w.heap.size w w11) := HB14.out.trans (hb.mono HB14.out.size)
            clear hb hrow hr
            go_wp2_with fail
            go_ret
            exact ⟨rfl, HB15.out⟩
          · have HB15 : Hid (Below w.heap.size w w11) := HB14.out.trans (hb.mono HB14.out.size)
            clear hb hr
            go_wp2_with fail
            go_ret
            exact ⟨rfl, HB15.out⟩
        · have hle := HLESS.out (by omega)
          rintro e w11 (⟨q', m', ya, yc, hr, rfl, hrow, -, hb, -⟩ | ⟨k', hr, hk', rfl, hb⟩)
          · rw [hle] at hr; cases hr
          · rw [hle] at hr
            injection hr with hr
            subst hr
            have HB15 : Hid (Below w.heap.size w w11) := HB14.out.trans (hb.mono HB14.out.size)
            have hn0i : ¬ ((n : Int) = 0) := by omega
            clear hb hle
            go_wp2_with fail
            go_ret
            exact ⟨rfl, HB15.out⟩

/-! ### The row's step -/
set_option maxRecDepth 100000 in
theorem lifted (os : Os) (started : os.Started) (H : Type) (enc : TypeId × Value → H) :
    ReturnsInHanded {} Try.checked os 5 .any (Rows.zlibBackSpec.pre6 enc Try.prog Try.f5 Rows.zlibBackRow.domain false) (Rows.zlibBackSpec.post enc Try.prog Try.f5 false true false false) := by
  refine returnsInHanded_of_change (C := Try.checked) own started (by kernel_rfl) Try.func5
    (ChangeSpec.witness6 (enc := enc) (C := Try.checked) false ⟨#[], #[.slice none 0 0, .slice none 0 0, .agg #[.int .u8 0, .int .u8 0, .int .u8 0, .int .u8 0], .int .i64 0], []⟩ 8 (by kernel_rfl) (by kernel_rfl) (by kernel_rfl) (by kernel_rfl)) ?_
  intro W base args ds gs before hval0 hW hcnd _
  have hval : ∀ (j : Nat) t v, Try.f5.params[j]? = some t → args[j]? = some v → Value.okWide Try.prog W .any base t v := hval0
  have hW' := hW
  obtain ⟨p, q, hA0, hV, rfl, hfz, hnd⟩ := hW
  have hA : DataW.TrodAll enc Try.prog W 0 (fun _ => true) true Try.f5.params.toList args.toList ds p := hA0
  rw [Try.params5] at hA hval
  obtain ⟨v0, vs0, d0, ds0, p0, q0, hargs, rfl, rfl, h0, r0⟩ := trodAll_cons hA
  obtain ⟨v1, vs1, d1, ds1, p1, q1, rfl, rfl, rfl, h1, r1⟩ := trodAll_cons r0
  obtain ⟨v2, vs2, d2, ds2, p2, q2, rfl, rfl, rfl, h2, r2⟩ := trodAll_cons r1
  obtain ⟨v3, vs3, d3, ds3, p3, q3, rfl, rfl, rfl, h3, r3⟩ := trodAll_cons r2
  obtain ⟨rfl, rfl, rfl⟩ := trodAll_nil r3
  obtain rfl : args = #[v0, v1, v2, v3] := by cases args; simp_all
  obtain ⟨rfl, rfl⟩ := trodVars_none hV
  obtain ⟨a0, len0, cap0, rfl⟩ := okWide_slice Try.underlying22 (hval 0 22 v0 rfl rfl)
  have k0 := h0
  have lt0 : ∀ x ∈ p0, x.block < W.heap.size := by obtain ⟨m, hm⟩ := k0; exact DataW.trod_lt m _ _ _ hm
  obtain ⟨z0, w0⟩ : ∃ zs, IsRow .u8 W a0 len0 cap0 zs := by
    obtain ⟨fuel, hf⟩ := h0
    rcases open_ints Try.underlying22 Try.underlying5 (by kernel_rfl) hf with ⟨hcs, _⟩ | ⟨x, l, c, zs, hcs, _, hl, hm, hz, _, hcell, hwz⟩
    · simp [Value.cells] at hcs
      obtain ⟨rfl, rfl, rfl⟩ := hcs
      exact ⟨[], .inl ⟨rfl, rfl, rfl, rfl⟩⟩
    · simp [Value.cells] at hcs
      obtain ⟨rfl, rfl, rfl⟩ := hcs
      exact ⟨zs, .inr ⟨_, rfl, hl, hm, by simpa using hz, hcell, hwz⟩⟩
  obtain ⟨a1, len1, cap1, rfl⟩ := okWide_slice Try.underlying22 (hval 1 22 v1 rfl rfl)
  have k1 := h1
  have lt1 : ∀ x ∈ p1, x.block < W.heap.size := by obtain ⟨m, hm⟩ := k1; exact DataW.trod_lt m _ _ _ hm
  obtain ⟨z1, w1⟩ : ∃ zs, IsRow .u8 W a1 len1 cap1 zs := by
    obtain ⟨fuel, hf⟩ := h1
    rcases open_ints Try.underlying22 Try.underlying5 (by kernel_rfl) hf with ⟨hcs, _⟩ | ⟨x, l, c, zs, hcs, _, hl, hm, hz, _, hcell, hwz⟩
    · simp [Value.cells] at hcs
      obtain ⟨rfl, rfl, rfl⟩ := hcs
      exact ⟨[], .inl ⟨rfl, rfl, rfl, rfl⟩⟩
    · simp [Value.cells] at hcs
      obtain ⟨rfl, rfl, rfl⟩ := hcs
      exact ⟨zs, .inr ⟨_, rfl, hl, hm, by simpa using hz, hcell, hwz⟩⟩
  have lt2 : ∀ x ∈ p2, x.block < W.heap.size := by obtain ⟨m, hm⟩ := h2; exact DataW.trod_lt m _ _ _ hm
  obtain ⟨a3, rfl, rfl, rfl, w3⟩ := open_int Try.underlying3 (hval 3 3 v3 rfl rfl) h3
  refine (walk base a0 len0 cap0 z0 a1 len1 cap1 z1 v2 d2 p2 a3 W w0 w1 (hval 2 32 v2 rfl rfl) h2 w3).mono fun e W' ⟨he, bel⟩ => ?_
  subst he
  exact ⟨_, rfl, _, _, _, [], _, [], hW', trodAll_mk1 (shut_bool Try.underlying4 _), (trodAll_cons_mk (Below.trod laidOut (by kernel_rfl) (of_decide_eq_true (by kernel_rfl)) k0 bel lt0) (trodAll_cons_mk (Below.trod laidOut (by kernel_rfl) (of_decide_eq_true (by kernel_rfl)) k1 bel lt1) (trodAll_cons_mk (Below.trod laidOut (by kernel_rfl) (of_decide_eq_true (by kernel_rfl)) h2 bel lt2) (trodAll_cons_mk (shut_int Try.underlying3 w3) trodAll_mk0)))), rfl, bel.frame _, fun h => by cases h⟩

theorem over : Rows.zlibBackRow.holds Try.pinned (OpenSpec.ofChange Rows.zlibBackSpec) :=
  OpenClaim.holds_of_wide 5 Try.f5 rfl rfl rfl rfl rfl rfl rfl ⟨rfl, rfl, rfl, rfl, rfl⟩ rfl rfl rfl rfl rfl (by kernel_rfl) Try.func5 (by kernel_rfl)
    (of_decide_eq_true (by kernel_rfl)) (by unfold Func.isWrapper; first | (rw [if_pos (by decide +kernel)]; kernel_rfl) | (rw [if_neg (by decide +kernel)]; exact ⟨rfl, rfl⟩))
    (fun os started H enc _ => lifted os started H enc)

/-- The statement. -/
theorem proved : Rows.ZlibBackSaid := over
#print axioms proved
end Go.Proofs.Ytaghilpcnoekeaa.zlibBack
