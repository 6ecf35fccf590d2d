/- The program's statement DeflateStored holds: for every input it returns true and leaves its arguments as they were. No further condition. -/
import Derived.Test.YteaaoigeopekiaaRows
import Derived.WalkKit
import Derived.ProofKit
import Derived.OpenShut
import Derived.ShutString
import Derived.ChangeOld
import Derived.Below
import Derived.StillTailTactics
import Derived.Deep.RegionHeld3
import Derived.Deep.AppendLies
import Derived.StillTactics
import Derived.Deep.RegionWith
import Derived.WalkSpells
import Derived.Outline
import Derived.Test.YteaaoigeopekiaaStoredS
import Derived.Test.YteaaoigeopekiaaFew
namespace Go.Proofs.Yteaaoigeopekiaa.deflateStored
open Go.ChangeShapes Go.WideShapes Go.ChangeAt Go.RowKit
open Go.ChangeMaps (open_string shut_string)
set_option linter.unusedVariables false

theorem own : ownKnob Try.prog.godebug = none := by kernel_rfl
theorem laidOut : laidOutB Try.prog = true := by kernel_rfl

/-- A slice of integers that came in: nil, or a row of cells. -/
def IsRow (k : IntKind) (w : World) (a : Option Addr) (len cap : Nat) (zs : List Int) : Prop :=
  (a = none ∧ len = 0 ∧ cap = 0 ∧ zs = []) ∨
  ∃ x, a = some x ∧ len ≤ cap ∧ cap ≤ maxLen ∧ zs.length = cap ∧ (∀ i, i < zs.length → w.cell? (x.add i) = some (.int k (zs.getD i 0))) ∧ ∀ n ∈ zs, (Lit.int k n).wf = true
open Plain
/-! ### The walk -/
set_option maxRecDepth 100000 in
set_option maxHeartbeats 32000000 in
theorem walk (a0 : Option Addr) (len0 cap0 : Nat) (z0 : List Int) (a1 : Int) (a2 : Int) (w : World) (w0 : IsRow .u8 w a0 len0 cap0 z0) (w1 : (Lit.int .i64 a1).wf = true) (w2 : (Lit.int .i64 a2).wf = true) :
    Calls Try.prog 4 #[.slice a0 len0 cap0, .int .i64 a1, .int .i64 a2] w fun e w' => e = .returned (.bool true) ∧ Below w.heap.size w w' := by
  obtain ⟨hb0, hlc0, hcm0⟩ := bytes_of w0
  have HN0 : Hid (a0 = none → cap0 = 0) := by
    rcases w0 with ⟨-, -, h, -⟩ | ⟨x, rfl, -⟩
    · exact fun _ => h
    · exact fun e => by cases e
  have R0 : Hid (RowB w a0 len0 cap0 (z0.take len0)) := ⟨hlc0, hcm0, HN0.out, hb0⟩
  obtain ⟨t, ht12, et⟩ : ∃ t : Nat, t < 12 ∧ wrap64 ((IntKind.u64.wrap a2).tmod 12) = (t : Int) := by
    have h0 : 0 ≤ IntKind.u64.wrap a2 := by rw [IntKind.wrap_u64]; omega
    generalize IntKind.u64.wrap a2 = u at *
    rw [Int.tmod_eq_emod_of_nonneg h0, IntWalk.wrap64_in _ (by omega)]
    exact ⟨(u % 12).toNat, by omega, by omega⟩
  have ET := Lib.hid et
  clear w0 w1 w2 hb0 HN0 et
  go_enter Try.func4, Try.ntmps4
  go_wp2_with fail
  refine (few_any w a0 len0 cap0 _ a1 R0.out).mono ?_
  rintro e wf ⟨⟨va, vc, n, xs, rfl, hm, hx, hn⟩, hb⟩
  have HM := Lib.hid hm
  have HX := Lib.hid hx
  have HB := Lib.hid hb
  have hn6 : n ≤ 65540 := by omega
  clear hm hx hb R0
  by_cases h8 : t < 8
  · have h8i : wrap64 ((IntKind.u64.wrap a2).tmod 12) < 8 := by rw [ET.out]; omega
    by_cases h0 : 0 < n
    · have h0i : 0 < (n : Int) := by omega
      go_wp2_with fail
      rw [ET.out]
      go_loopw [0] (fun v wq => ∃ (b : Option Addr) (m cc : Nat) (ys : List Int), v = .slice b m cc ∧ Mid wq w.heap.size (.slice b m cc) m ys ∧ (∀ y ∈ ys, 0 ≤ y ∧ y ≤ 255) ∧ 0 < m ∧ m ≤ 65531 ∧ Below w.heap.size w wq) (fun v _ => 65531 - sizeV v)
      case atStart => exact ⟨va, n, vc, xs, rfl, HM.out, HX.out, h0, by omega, HB.out⟩
      case round =>
        obtain ⟨b, m, cc, ys, rfl, hm, hx, hm0, hm1, hb⟩ := hrel
        have HM1 := Lib.hid hm
        have HX1 := Lib.hid hx
        have HB1 := Lib.hid hb
        obtain ⟨hmc, hcc⟩ := hm.ends
        have hsz : w.heap.size ≤ wr.heap.size := hb.size
        clear hm hx hb HM HX HB
        by_cases hlt : m < 65531
        · have hli : (m : Int) < 65531 := by omega
          obtain ⟨d, hd⟩ : ∃ d, min m (65531 - m) = d := ⟨_, rfl⟩
          have hd1 : 0 < d := by omega
          have hd2 : d ≤ m := by omega
          have hd3 : m + d ≤ 65531 := by omega
          have hdc : d ≤ cc := by omega
          have hmin : ∀ W : World, Sem.run Try.prog (Builtin.min_ #[3, 3] 3 #[.int .i64 (m : Int), .int .i64 (65531 - (m : Int))]) W = .ok (.int .i64 (d : Int)) W := fun W => by
            rw [run_min2, show min (m : Int) (65531 - (m : Int)) = (d : Int) by omega]
          have HD : Hid (Bytes wr b d (ys.take d)) := by
            have := (HM1.out.bytes (range_of_mem0 HX1.out)).first d
            rwa [Nat.min_eq_right hd2] at this
          clear hd
          have tok : True := trivial
          go_wp2_with (
            have _t := tok
            at_builtin
            refine wpList_append_to rfl _ _ 22 rfl w.heap.size (.slice b m cc) m ys rfl HM1.out _ d (ys.take d) rfl (src_bytes HD.out) (m + d) (ys ++ ys.take d) rfl rfl (by omega) hsz ?_
            intro pa pc p2 hm hb
            have HM2 := Lib.hid hm
            have HB2 : Hid (Below w.heap.size w p2) := HB1.out.trans hb
            clear tok hm hb
            refine Hid.out ?_)
          refine unhid ?_
          clear HM1
          go_wp2_with fail
          go_roundw
          case rel => exact ⟨pa, m + d, pc, ys ++ ys.take d, rfl, HM2.out, (fun y hy => (List.mem_append.1 hy).elim (HX1.out y) fun h => HX1.out y (List.mem_of_mem_take h)), by omega, hd3, HB2.out⟩
          case measure => simp [sizeV]; omega
        · have hli : ¬ (m : Int) < 65531 := by omega
          go_wp2_with fail
          obtain ⟨wl, rfl⟩ : ∃ wl : World, wl = wr := ⟨_, rfl⟩
          go_loopw [0, 8] (fun v vi wq => ∃ (i : Nat) (b : Option Addr) (m cc : Nat) (ys : List Int), vi = .int .i64 (i : Int) ∧ i ≤ t ∧ v = .slice b m cc ∧ Mid wq w.heap.size (.slice b m cc) m ys ∧ (∀ y ∈ ys, 0 ≤ y ∧ y ≤ 255) ∧ m ≤ 65531 + i ∧ Below w.heap.size w wq) (fun _ vi _ => t - (intOf vi).toNat)
          case atStart => exact ⟨0, b, m, cc, ys, rfl, by omega, rfl, HM1.out, HX1.out, by omega, HB1.out⟩
          case round =>
            obtain ⟨i, b2, m2, cc2, y2, rfl, hi, rfl, hm, hx, hm2, hb⟩ := hrel
            have HM := Lib.hid hm
            have HX := Lib.hid hx
            have HB := Lib.hid hb
            have hsz2 : w.heap.size ≤ wr.heap.size := hb.size
            clear hm hx hb HM1 HX1 HB1 hm0 hm1 hmc hcc hlt hli
            by_cases hit : i < t
            · have hii : (i : Int) < (t : Int) := by omega
              have hi8 : IntKind.u8.wrap (i : Int) = (i : Int) := by rw [IntKind.wrap_u8]; omega
              have HL : Hid (Bytes (wr.alloc (.cells #[.int .u8 (i : Int)] 5)) (some ⟨wr.heap.size, 0, none⟩) 1 [(i : Int)]) := Bytes.lit wr wr.heap.size rfl [(i : Int)] 5 (0, 0) 1 rfl (by omega) (fun x hx => by rw [List.mem_singleton.1 hx]; omega)
              have HN : Hid (Below wr.heap.size wr (wr.alloc (.cells #[.int .u8 (i : Int)] 5))) := (Below.refl _ _).alloc (Nat.le_refl _) _
              have tok : True := trivial
              go_wp2_with (
                have _t := tok
                at_builtin
                refine wpList_append_to rfl _ _ 22 rfl w.heap.size (.slice b2 m2 cc2) m2 y2 rfl (HM.out.below HN.out) _ 1 [(i : Int)] rfl (src_bytes HL.out) (m2 + 1) (y2 ++ [(i : Int)]) rfl rfl (by omega) (Nat.le_trans hsz2 HN.out.size) ?_
                intro pa pc p2 hm hb
                have HM2 := Lib.hid hm
                have HB2 : Hid (Below w.heap.size w p2) := (HB.out.trans (HN.out.mono hsz2)).trans hb
                clear tok hm hb
                refine Hid.out ?_)
              refine unhid ?_
              clear HM HL
              go_wp2_with fail
              go_roundw
              case rel => exact ⟨i + 1, pa, m2 + 1, pc, y2 ++ [(i : Int)], by go_num, by omega, rfl, HM2.out, (fun y hy => (List.mem_append.1 hy).elim (HX.out y) fun h => by rw [List.mem_singleton.1 h]; omega), by omega, HB2.out⟩
              case measure => simp [intOf]; go_num
            · have hii : ¬ (i : Int) < (t : Int) := by omega
              have hn6' : m2 ≤ 65540 := by omega
              have ht12' := ht12
              obtain ⟨ws, rfl⟩ : ∃ ws : World, ws = wr := ⟨_, rfl⟩
              have HRB := Lib.hid (HM.out.row (range_of_mem0 HX.out))
              obtain ⟨S, hS⟩ : ∃ S, storedOf 65535 (m2 + 1) y2 = S := ⟨_, rfl⟩
              have HS := Lib.hid hS
              have HLEN := Lib.hid (storedOf_len (each := 65535) (by omega) (m2 + 1) y2 (by rw [HRB.out.len]; omega))
              have HRAN := Lib.hid (storedOf_range (each := 65535) (by omega) (m2 + 1) y2 HX.out)
              have hbk := stored_back (each := 65535) (by omega) (by omega) m2 (m2 + 1) y2 [] HX.out (by rw [HRB.out.len]; omega) (by rw [HRB.out.len]; simp)
              have HRAW : Hid (rawOf (storedOf 65535 (m2 + 1) y2) m2 = .ok (8 * (storedOf 65535 (m2 + 1) y2).length, y2)) := hbk
              have HSZ : Hid (w.heap.size ≤ ws.heap.size) := HB.out.size
              rw [hS] at HLEN HRAN HRAW
              have hsl : S.length ≤ 500000 := by have h1 := HLEN.out; rw [HRB.out.len] at h1; omega
              clear hS hbk HM
              go_wp2_with fail
              go_loopw [9, 10] (fun vo v wq => ∃ (b : Option Addr) (m cc k : Nat) (ys out : List Int), v = .slice b m cc ∧ RowB ws b m cc ys ∧ m ≤ m2 ∧ Mid wq ws.heap.size vo k out ∧ out ++ storedOf 65535 (m + 1) ys = S ∧ Below ws.heap.size ws wq) (fun _ v _ => sizeV v)
              case atStart => exact ⟨b2, m2, cc2, 0, y2, [], rfl, HRB.out, Nat.le_refl _, Mid.nil _ _, HS.out, Below.refl _ _⟩
              case round =>
                obtain ⟨b, m, cc, k, ys, out, rfl, hrow, hmn, hm, hs, hb⟩ := hrel
                have HROW := Lib.hid hrow
                have HMQ := Lib.hid hm
                have HSS := Lib.hid hs
                have HBQ := Lib.hid hb
                obtain ⟨qa, qc, rfl, -⟩ := hm.shape
                have hszq : ws.heap.size ≤ wr.heap.size := hb.size
                have HMl : Hid (out.length = k) := hm.1
                clear hrow hm hs hb
                have hk5 : k ≤ 500000 := by
                  have h1 := congrArg List.length HSS.out
                  rw [List.length_append, HMl.out] at h1
                  omega
                by_cases hle : m ≤ 65535
                · have hgt : ¬ (65535 : Int) < (m : Int) := by omega
                  obtain ⟨r, hr⟩ : ∃ r, m % 256 = r := ⟨_, rfl⟩
                  obtain ⟨q, hq⟩ : ∃ q, m / 256 = q := ⟨_, rfl⟩
                  obtain ⟨s, hs⟩ : ∃ s, 255 - r = s := ⟨_, rfl⟩
                  obtain ⟨u, hu⟩ : ∃ u, 255 - q = u := ⟨_, rfl⟩
                  have HDR : Hid (hdrS 1 m = [1, (r : Int), (q : Int), (s : Int), (u : Int)]) := by show _ = _; unfold hdrS; rw [hr, hq, hs, hu]; rfl
                  have e1 : (m : Int) % 256 = (r : Int) := by omega
                  have e2 : (m : Int) / 256 = (q : Int) := by omega
                  have e3 : (65535 - (m : Int)) % 256 = (s : Int) := by omega
                  have e4 : (65535 - (m : Int)) / 256 = (u : Int) := by omega
                  have HRG : Hid (∀ x ∈ [1, (r : Int), (q : Int), (s : Int), (u : Int)], 0 ≤ x ∧ x ≤ 255) := by
                    show ∀ x ∈ _, _
                    rw [← HDR.out]; exact hdrS_range (by omega) (by omega)
                  clear hr hq hs hu
                  have HL : Hid (Bytes (wr.alloc (.cells #[.int .u8 1, .int .u8 (r : Int), .int .u8 (q : Int), .int .u8 (s : Int), .int .u8 (u : Int)] 5)) (some ⟨wr.heap.size, 0, none⟩) 5 [1, (r : Int), (q : Int), (s : Int), (u : Int)]) := Bytes.lit wr wr.heap.size rfl [1, (r : Int), (q : Int), (s : Int), (u : Int)] 5 (0, 0) 5 rfl (by omega) HRG.out
                  have HN : Hid (Below wr.heap.size wr (wr.alloc (.cells #[.int .u8 1, .int .u8 (r : Int), .int .u8 (q : Int), .int .u8 (s : Int), .int .u8 (u : Int)] 5))) := (Below.refl _ _).alloc (Nat.le_refl _) _
                  have hst := slice_to b m cc m (by have := HROW.out.le; omega)
                  have hsl2 := slice_from b m cc m (by omega) HROW.out.le
                  have tok : True := trivial
                  go_wp2_with (
                    have _t := tok
                    at_builtin
                    refine wpList_append_to rfl _ _ 22 rfl ws.heap.size (.slice qa k qc) k out rfl (HMQ.out.below HN.out) _ 5 [1, (r : Int), (q : Int), (s : Int), (u : Int)] rfl (src_bytes HL.out) (k + 5) (out ++ hdrS 1 m) rfl (by rw [HDR.out]) (by omega) (Nat.le_trans hszq HN.out.size) ?_
                    intro pa pc p2 hm hb
                    have HM2 := Lib.hid hm
                    have HB2 : Hid (Below ws.heap.size ws p2) := (HBQ.out.trans (HN.out.mono hszq)).trans hb
                    clear tok hm hb
                    refine Hid.out ?_)
                  refine unhid ?_
                  have hsz2 : ws.heap.size ≤ p2.heap.size := HB2.out.size
                  clear HL HN HMQ e1 e2 e3 e4
                  have tok : True := trivial
                  go_wp2_with (
                    have _t := tok
                    at_builtin
                    refine wpList_append_to rfl _ _ 22 rfl ws.heap.size (.slice pa (k + 5) pc) (k + 5) (out ++ hdrS 1 m) rfl HM2.out _ m (ys.take m) rfl (src_bytes ((HROW.out.first m (by omega)).below HB2.out)) (k + 5 + m) (out ++ hdrS 1 m ++ ys.take m) rfl rfl (by omega) hsz2 ?_
                    intro ra rc p3 hm hb
                    have HM3 := Lib.hid hm
                    have HB3 : Hid (Below ws.heap.size ws p3) := HB2.out.trans hb
                    clear tok hm hb
                    refine Hid.out ?_)
                  refine unhid ?_
                  clear HM2
                  have HFIN : Hid (out ++ hdrS 1 m ++ ys.take m = S) := by
                    show _ = _
                    rw [← HSS.out, storedOf, if_pos (by rw [HROW.out.len]; exact hle), HROW.out.len, List.take_of_length_le (by rw [HROW.out.len]; omega), List.append_assoc]
                  have HWR : Hid (RowB p3 ra S.length rc S) := by
                    have h1 := HM3.out
                    rw [HFIN.out] at h1
                    have h2 := h1.1
                    rw [← h2] at h1
                    exact h1.row (range_of_mem0 HRAN.out)
                  have HKL : Hid (k + 5 + m = S.length) := by
                    have h1 := HM3.out
                    rw [HFIN.out] at h1
                    exact h1.1.symm
                  have kl := HKL.out
                  obtain ⟨sl, esl⟩ : ∃ sl, S.length = sl := ⟨_, rfl⟩
                  have HSL := Lib.hid esl
                  rw [kl, esl]
                  rw [esl] at HWR HRAW
                  have hsl3 : sl ≤ 500000 := by omega
                  have HRB3 := Lib.hid (HRB.out.below HB3.out)
                  have HBW3 : Hid (Below w.heap.size w p3) := HB.out.trans (HB3.out.mono HSZ.out)
                  clear HM3 HROW HB2 HBQ HB3 kl esl hle hgt hmn hk5 hsl
                  go_wp2_with fail
                  refine (storedS_any b2 m2 cc2 y2 p3 HRB3.out (by omega)).mono ?_
                  rw [HS.out, HSL.out]
                  rintro e w5 ⟨⟨sa, sc, rfl, hrow⟩, hb⟩
                  have HSR := Lib.hid hrow
                  have HWR5 := Lib.hid (HWR.out.below hb)
                  have HRB5 := Lib.hid (HRB3.out.below hb)
                  have HB5 : Hid (Below w.heap.size w w5) := HBW3.out.trans (hb.mono HBW3.out.size)
                  clear hrow hb HWR HRB3 HBW3
                  go_wp2_with fail
                  refine (raw_row sa sl sc S (m2 : Int) m2 w5 HSR.out (by omega) rfl (by omega)).mono ?_
                  rintro e w6 (⟨q', m', ya, yc, hr, rfl, hrow, -, hb, -⟩ | ⟨k', hr, hk', rfl, hb⟩)
                  · rw [HRAW.out] at hr
                    injection hr with hr
                    injection hr with h1 h2
                    subst h1 h2
                    rw [show (8 * sl + 7) / 8 = sl by omega]
                    have hxl := HRB.out.len
                    rw [hxl] at hrow ⊢
                    have HZ := Lib.hid hrow
                    have HS6 := Lib.hid (HSR.out.below hb)
                    have HW6 := Lib.hid (HWR5.out.below hb)
                    have HR6 := Lib.hid (HRB5.out.below hb)
                    have HB6 : Hid (Below w.heap.size w w6) := HB5.out.trans (hb.mono HB5.out.size)
                    clear hrow hb hxl HSR HWR5 HRB5
                    go_wp2_with fail
                    refine (known_any w6).mono ?_
                    rintro e w7 ⟨rfl, hb7⟩
                    have t1 := text_run w7 sa sl sc S (HS6.out.below hb7).bytes
                    have t2 := text_run w7 ra sl rc S (HW6.out.below hb7).bytes
                    have t3 := text_run w7 ya m2 yc y2 (HZ.out.below hb7).bytes
                    have t4 := text_run w7 b2 m2 cc2 y2 (HR6.out.below hb7).bytes
                    have HB7 : Hid (Below w.heap.size w w7) := HB6.out.trans (hb7.mono HB6.out.size)
                    clear hb7 HS6 HW6 HZ HR6 HB6
                    go_wp2_with fail
                    go_ret
                    exact ⟨rfl, HB7.out⟩
                  · rw [HRAW.out] at hr; cases hr
                · have hgt : (65535 : Int) < (m : Int) := by omega
                  have HL : Hid (Bytes (wr.alloc (.cells #[.int .u8 0, .int .u8 255, .int .u8 255, .int .u8 0, .int .u8 0] 5)) (some ⟨wr.heap.size, 0, none⟩) 5 [0, 255, 255, 0, 0]) := Bytes.lit wr wr.heap.size rfl [0, 255, 255, 0, 0] 5 (0, 0) 5 rfl (by omega) (by decide)
                  have HN : Hid (Below wr.heap.size wr (wr.alloc (.cells #[.int .u8 0, .int .u8 255, .int .u8 255, .int .u8 0, .int .u8 0] 5))) := (Below.refl _ _).alloc (Nat.le_refl _) _
                  have hst : ∀ W : World, (Instr.sliceAt 22 (.slice b m cc) none (some (.int .i64 65535)) none).run Try.prog W = .ok (.slice b 65535 cc) W := slice_to b m cc 65535 (by have := HROW.out.le; omega)
                  have hsl2 : ∀ W : World, (Instr.sliceAt 22 (.slice b m cc) (some (.int .i64 65535)) none none).run Try.prog W = .ok (.slice (subA b cc 65535) (m - 65535) (cc - 65535)) W := slice_from b m cc 65535 (by omega) HROW.out.le
                  have tok : True := trivial
                  go_wp2_with (
                    have _t := tok
                    at_builtin
                    refine wpList_append_to rfl _ _ 22 rfl ws.heap.size (.slice qa k qc) k out rfl (HMQ.out.below HN.out) _ 5 [0, 255, 255, 0, 0] rfl (src_bytes HL.out) (k + 5) (out ++ hdrS 0 65535) rfl rfl (by omega) (Nat.le_trans hszq HN.out.size) ?_
                    intro pa pc p2 hm hb
                    have HM2 := Lib.hid hm
                    have HB2 : Hid (Below ws.heap.size ws p2) := (HBQ.out.trans (HN.out.mono hszq)).trans hb
                    clear tok hm hb
                    refine Hid.out ?_)
                  refine unhid ?_
                  have hsz2 : ws.heap.size ≤ p2.heap.size := HB2.out.size
                  clear HL HN HMQ
                  have tok : True := trivial
                  go_wp2_with (
                    have _t := tok
                    at_builtin
                    refine wpList_append_to rfl _ _ 22 rfl ws.heap.size (.slice pa (k + 5) pc) (k + 5) (out ++ hdrS 0 65535) rfl HM2.out _ 65535 (ys.take 65535) rfl (src_bytes ((HROW.out.first 65535 (by omega)).below HB2.out)) (k + 5 + 65535) (out ++ hdrS 0 65535 ++ ys.take 65535) rfl rfl (by omega) hsz2 ?_
                    intro ra rc p3 hm hb
                    have HM3 := Lib.hid hm
                    have HB3 : Hid (Below ws.heap.size ws p3) := HB2.out.trans hb
                    clear tok hm hb
                    refine Hid.out ?_)
                  refine unhid ?_
                  clear HM2
                  go_wp2_with fail
                  go_roundw
                  case rel =>
                    refine ⟨subA b cc 65535, m - 65535, cc - 65535, k + 5 + 65535, ys.drop 65535, out ++ hdrS 0 65535 ++ ys.take 65535, rfl, HROW.out.part 65535 (by omega), by omega, HM3.out, ?_, HB3.out⟩
                    have hyl := HROW.out.len
                    have h1 : storedOf 65535 (m + 1) ys = hdrS 0 65535 ++ ys.take 65535 ++ storedOf 65535 m (ys.drop 65535) := by rw [storedOf, if_neg (by omega)]
                    rw [← HSS.out, h1, storedOf_same (by omega) (m - 65535 + 1) m (ys.drop 65535) (by rw [List.length_drop]; omega) (by rw [List.length_drop]; omega)]
                    simp only [List.append_assoc]
                  case measure => simp [sizeV]; omega
    · have h0i : ¬ 0 < (n : Int) := by omega
      have HRB := Lib.hid (HM.out.row (range_of_mem0 HX.out))
      obtain ⟨S, hS⟩ : ∃ S, storedOf 65535 (n + 1) xs = S := ⟨_, rfl⟩
      have HS := Lib.hid hS
      have HLEN := Lib.hid (storedOf_len (each := 65535) (by omega) (n + 1) xs (by rw [HRB.out.len]; omega))
      have HRAN := Lib.hid (storedOf_range (each := 65535) (by omega) (n + 1) xs HX.out)
      have hbk := stored_back (each := 65535) (by omega) (by omega) n (n + 1) xs [] HX.out (by rw [HRB.out.len]; omega) (by rw [HRB.out.len]; simp)
      have HRAW : Hid (rawOf (storedOf 65535 (n + 1) xs) n = .ok (8 * (storedOf 65535 (n + 1) xs).length, xs)) := hbk
      have HSZ : Hid (w.heap.size ≤ wf.heap.size) := HB.out.size
      rw [hS] at HLEN HRAN HRAW
      have hsl : S.length ≤ 500000 := by have h1 := HLEN.out; rw [HRB.out.len] at h1; omega
      clear hS hbk HM
      go_wp2_with fail
      go_loopw [9, 10] (fun vo v wq => ∃ (b : Option Addr) (m cc k : Nat) (ys out : List Int), v = .slice b m cc ∧ RowB wf b m cc ys ∧ m ≤ n ∧ Mid wq wf.heap.size vo k out ∧ out ++ storedOf 65535 (m + 1) ys = S ∧ Below wf.heap.size wf wq) (fun _ v _ => sizeV v)
      case atStart => exact ⟨va, n, vc, 0, xs, [], rfl, HRB.out, Nat.le_refl _, Mid.nil _ _, HS.out, Below.refl _ _⟩
      case round =>
        obtain ⟨b, m, cc, k, ys, out, rfl, hrow, hmn, hm, hs, hb⟩ := hrel
        have HROW := Lib.hid hrow
        have HMQ := Lib.hid hm
        have HSS := Lib.hid hs
        have HBQ := Lib.hid hb
        obtain ⟨qa, qc, rfl, -⟩ := hm.shape
        have hszq : wf.heap.size ≤ wr.heap.size := hb.size
        have HMl : Hid (out.length = k) := hm.1
        clear hrow hm hs hb
        have hk5 : k ≤ 500000 := by
          have h1 := congrArg List.length HSS.out
          rw [List.length_append, HMl.out] at h1
          omega
        by_cases hle : m ≤ 65535
        · have hgt : ¬ (65535 : Int) < (m : Int) := by omega
          obtain ⟨r, hr⟩ : ∃ r, m % 256 = r := ⟨_, rfl⟩
          obtain ⟨q, hq⟩ : ∃ q, m / 256 = q := ⟨_, rfl⟩
          obtain ⟨s, hs⟩ : ∃ s, 255 - r = s := ⟨_, rfl⟩
          obtain ⟨u, hu⟩ : ∃ u, 255 - q = u := ⟨_, rfl⟩
          have HDR : Hid (hdrS 1 m = [1, (r : Int), (q : Int), (s : Int), (u : Int)]) := by show _ = _; unfold hdrS; rw [hr, hq, hs, hu]; rfl
          have e1 : (m : Int) % 256 = (r : Int) := by omega
          have e2 : (m : Int) / 256 = (q : Int) := by omega
          have e3 : (65535 - (m : Int)) % 256 = (s : Int) := by omega
          have e4 : (65535 - (m : Int)) / 256 = (u : Int) := by omega
          have HRG : Hid (∀ x ∈ [1, (r : Int), (q : Int), (s : Int), (u : Int)], 0 ≤ x ∧ x ≤ 255) := by
            show ∀ x ∈ _, _
            rw [← HDR.out]; exact hdrS_range (by omega) (by omega)
          clear hr hq hs hu
          have HL : Hid (Bytes (wr.alloc (.cells #[.int .u8 1, .int .u8 (r : Int), .int .u8 (q : Int), .int .u8 (s : Int), .int .u8 (u : Int)] 5)) (some ⟨wr.heap.size, 0, none⟩) 5 [1, (r : Int), (q : Int), (s : Int), (u : Int)]) := Bytes.lit wr wr.heap.size rfl [1, (r : Int), (q : Int), (s : Int), (u : Int)] 5 (0, 0) 5 rfl (by omega) HRG.out
          have HN : Hid (Below wr.heap.size wr (wr.alloc (.cells #[.int .u8 1, .int .u8 (r : Int), .int .u8 (q : Int), .int .u8 (s : Int), .int .u8 (u : Int)] 5))) := (Below.refl _ _).alloc (Nat.le_refl _) _
          have hst := slice_to b m cc m (by have := HROW.out.le; omega)
          have hsl2 := slice_from b m cc m (by omega) HROW.out.le
          have tok : True := trivial
          go_wp2_with (
            have _t := tok
            at_builtin
            refine wpList_append_to rfl _ _ 22 rfl wf.heap.size (.slice qa k qc) k out rfl (HMQ.out.below HN.out) _ 5 [1, (r : Int), (q : Int), (s : Int), (u : Int)] rfl (src_bytes HL.out) (k + 5) (out ++ hdrS 1 m) rfl (by rw [HDR.out]) (by omega) (Nat.le_trans hszq HN.out.size) ?_
            intro pa pc p2 hm hb
            have HM2 := Lib.hid hm
            have HB2 : Hid (Below wf.heap.size wf p2) := (HBQ.out.trans (HN.out.mono hszq)).trans hb
            clear tok hm hb
            refine Hid.out ?_)
          refine unhid ?_
          have hsz2 : wf.heap.size ≤ p2.heap.size := HB2.out.size
          clear HL HN HMQ e1 e2 e3 e4
          have tok : True := trivial
          go_wp2_with (
            have _t := tok
            at_builtin
            refine wpList_append_to rfl _ _ 22 rfl wf.heap.size (.slice pa (k + 5) pc) (k + 5) (out ++ hdrS 1 m) rfl HM2.out _ m (ys.take m) rfl (src_bytes ((HROW.out.first m (by omega)).below HB2.out)) (k + 5 + m) (out ++ hdrS 1 m ++ ys.take m) rfl rfl (by omega) hsz2 ?_
            intro ra rc p3 hm hb
            have HM3 := Lib.hid hm
            have HB3 : Hid (Below wf.heap.size wf p3) := HB2.out.trans hb
            clear tok hm hb
            refine Hid.out ?_)
          refine unhid ?_
          clear HM2
          have HFIN : Hid (out ++ hdrS 1 m ++ ys.take m = S) := by
            show _ = _
            rw [← HSS.out, storedOf, if_pos (by rw [HROW.out.len]; exact hle), HROW.out.len, List.take_of_length_le (by rw [HROW.out.len]; omega), List.append_assoc]
          have HWR : Hid (RowB p3 ra S.length rc S) := by
            have h1 := HM3.out
            rw [HFIN.out] at h1
            have h2 := h1.1
            rw [← h2] at h1
            exact h1.row (range_of_mem0 HRAN.out)
          have HKL : Hid (k + 5 + m = S.length) := by
            have h1 := HM3.out
            rw [HFIN.out] at h1
            exact h1.1.symm
          have kl := HKL.out
          obtain ⟨sl, esl⟩ : ∃ sl, S.length = sl := ⟨_, rfl⟩
          have HSL := Lib.hid esl
          rw [kl, esl]
          rw [esl] at HWR HRAW
          have hsl3 : sl ≤ 500000 := by omega
          have HRB3 := Lib.hid (HRB.out.below HB3.out)
          have HBW3 : Hid (Below w.heap.size w p3) := HB.out.trans (HB3.out.mono HSZ.out)
          clear HM3 HROW HB2 HBQ HB3 kl esl hle hgt hmn hk5 hsl
          go_wp2_with fail
          refine (storedS_any va n vc xs p3 HRB3.out (by omega)).mono ?_
          rw [HS.out, HSL.out]
          rintro e w5 ⟨⟨sa, sc, rfl, hrow⟩, hb⟩
          have HSR := Lib.hid hrow
          have HWR5 := Lib.hid (HWR.out.below hb)
          have HRB5 := Lib.hid (HRB3.out.below hb)
          have HB5 : Hid (Below w.heap.size w w5) := HBW3.out.trans (hb.mono HBW3.out.size)
          clear hrow hb HWR HRB3 HBW3
          go_wp2_with fail
          refine (raw_row sa sl sc S (n : Int) n w5 HSR.out (by omega) rfl (by omega)).mono ?_
          rintro e w6 (⟨q', m', ya, yc, hr, rfl, hrow, -, hb, -⟩ | ⟨k', hr, hk', rfl, hb⟩)
          · rw [HRAW.out] at hr
            injection hr with hr
            injection hr with h1 h2
            subst h1 h2
            rw [show (8 * sl + 7) / 8 = sl by omega]
            have hxl := HRB.out.len
            rw [hxl] at hrow ⊢
            have HZ := Lib.hid hrow
            have HS6 := Lib.hid (HSR.out.below hb)
            have HW6 := Lib.hid (HWR5.out.below hb)
            have HR6 := Lib.hid (HRB5.out.below hb)
            have HB6 : Hid (Below w.heap.size w w6) := HB5.out.trans (hb.mono HB5.out.size)
            clear hrow hb hxl HSR HWR5 HRB5
            go_wp2_with fail
            refine (known_any w6).mono ?_
            rintro e w7 ⟨rfl, hb7⟩
            have t1 := text_run w7 sa sl sc S (HS6.out.below hb7).bytes
            have t2 := text_run w7 ra sl rc S (HW6.out.below hb7).bytes
            have t3 := text_run w7 ya n yc xs (HZ.out.below hb7).bytes
            have t4 := text_run w7 va n vc xs (HR6.out.below hb7).bytes
            have HB7 : Hid (Below w.heap.size w w7) := HB6.out.trans (hb7.mono HB6.out.size)
            clear hb7 HS6 HW6 HZ HR6 HB6
            go_wp2_with fail
            go_ret
            exact ⟨rfl, HB7.out⟩
          · rw [HRAW.out] at hr; cases hr
        · omega
  · have h8i : ¬ wrap64 ((IntKind.u64.wrap a2).tmod 12) < 8 := by rw [ET.out]; omega
    have HRB := Lib.hid (HM.out.row (range_of_mem0 HX.out))
    obtain ⟨S, hS⟩ : ∃ S, storedOf 65535 (n + 1) xs = S := ⟨_, rfl⟩
    have HS := Lib.hid hS
    have HLEN := Lib.hid (storedOf_len (each := 65535) (by omega) (n + 1) xs (by rw [HRB.out.len]; omega))
    have HRAN := Lib.hid (storedOf_range (each := 65535) (by omega) (n + 1) xs HX.out)
    have hbk := stored_back (each := 65535) (by omega) (by omega) n (n + 1) xs [] HX.out (by rw [HRB.out.len]; omega) (by rw [HRB.out.len]; simp)
    have HRAW : Hid (rawOf (storedOf 65535 (n + 1) xs) n = .ok (8 * (storedOf 65535 (n + 1) xs).length, xs)) := hbk
    have HSZ : Hid (w.heap.size ≤ wf.heap.size) := HB.out.size
    rw [hS] at HLEN HRAN HRAW
    have hsl : S.length ≤ 500000 := by have h1 := HLEN.out; rw [HRB.out.len] at h1; omega
    clear hS hbk HM
    go_wp2_with fail
    go_loopw [9, 10] (fun vo v wq => ∃ (b : Option Addr) (m cc k : Nat) (ys out : List Int), v = .slice b m cc ∧ RowB wf b m cc ys ∧ m ≤ n ∧ Mid wq wf.heap.size vo k out ∧ out ++ storedOf 65535 (m + 1) ys = S ∧ Below wf.heap.size wf wq) (fun _ v _ => sizeV v)
    case atStart => exact ⟨va, n, vc, 0, xs, [], rfl, HRB.out, Nat.le_refl _, Mid.nil _ _, HS.out, Below.refl _ _⟩
    case round =>
      obtain ⟨b, m, cc, k, ys, out, rfl, hrow, hmn, hm, hs, hb⟩ := hrel
      have HROW := Lib.hid hrow
      have HMQ := Lib.hid hm
      have HSS := Lib.hid hs
      have HBQ := Lib.hid hb
      obtain ⟨qa, qc, rfl, -⟩ := hm.shape
      have hszq : wf.heap.size ≤ wr.heap.size := hb.size
      have HMl : Hid (out.length = k) := hm.1
      clear hrow hm hs hb
      have hk5 : k ≤ 500000 := by
        have h1 := congrArg List.length HSS.out
        rw [List.length_append, HMl.out] at h1
        omega
      by_cases hle : m ≤ 65535
      · have hgt : ¬ (65535 : Int) < (m : Int) := by omega
        obtain ⟨r, hr⟩ : ∃ r, m % 256 = r := ⟨_, rfl⟩
        obtain ⟨q, hq⟩ : ∃ q, m / 256 = q := ⟨_, rfl⟩
        obtain ⟨s, hs⟩ : ∃ s, 255 - r = s := ⟨_, rfl⟩
        obtain ⟨u, hu⟩ : ∃ u, 255 - q = u := ⟨_, rfl⟩
        have HDR : Hid (hdrS 1 m = [1, (r : Int), (q : Int), (s : Int), (u : Int)]) := by show _ = _; unfold hdrS; rw [hr, hq, hs, hu]; rfl
        have e1 : (m : Int) % 256 = (r : Int) := by omega
        have e2 : (m : Int) / 256 = (q : Int) := by omega
        have e3 : (65535 - (m : Int)) % 256 = (s : Int) := by omega
        have e4 : (65535 - (m : Int)) / 256 = (u : Int) := by omega
        have HRG : Hid (∀ x ∈ [1, (r : Int), (q : Int), (s : Int), (u : Int)], 0 ≤ x ∧ x ≤ 255) := by
          show ∀ x ∈ _, _
          rw [← HDR.out]; exact hdrS_range (by omega) (by omega)
        clear hr hq hs hu
        have HL : Hid (Bytes (wr.alloc (.cells #[.int .u8 1, .int .u8 (r : Int), .int .u8 (q : Int), .int .u8 (s : Int), .int .u8 (u : Int)] 5)) (some ⟨wr.heap.size, 0, none⟩) 5 [1, (r : Int), (q : Int), (s : Int), (u : Int)]) := Bytes.lit wr wr.heap.size rfl [1, (r : Int), (q : Int), (s : Int), (u : Int)] 5 (0, 0) 5 rfl (by omega) HRG.out
        have HN : Hid (Below wr.heap.size wr (wr.alloc (.cells #[.int .u8 1, .int .u8 (r : Int), .int .u8 (q : Int), .int .u8 (s : Int), .int .u8 (u : Int)] 5))) := (Below.refl _ _).alloc (Nat.le_refl _) _
        have hst := slice_to b m cc m (by have := HROW.out.le; omega)
        have hsl2 := slice_from b m cc m (by omega) HROW.out.le
        have tok : True := trivial
        go_wp2_with (
          have _t := tok
          at_builtin
          refine wpList_append_to rfl _ _ 22 rfl wf.heap.size (.slice qa k qc) k out rfl (HMQ.out.below HN.out) _ 5 [1, (r : Int), (q : Int), (s : Int), (u : Int)] rfl (src_bytes HL.out) (k + 5) (out ++ hdrS 1 m) rfl (by rw [HDR.out]) (by omega) (Nat.le_trans hszq HN.out.size) ?_
          intro pa pc p2 hm hb
          have HM2 := Lib.hid hm
          have HB2 : Hid (Below wf.heap.size wf p2) := (HBQ.out.trans (HN.out.mono hszq)).trans hb
          clear tok hm hb
          refine Hid.out ?_)
        refine unhid ?_
        have hsz2 : wf.heap.size ≤ p2.heap.size := HB2.out.size
        clear HL HN HMQ e1 e2 e3 e4
        have tok : True := trivial
        go_wp2_with (
          have _t := tok
          at_builtin
          refine wpList_append_to rfl _ _ 22 rfl wf.heap.size (.slice pa (k + 5) pc) (k + 5) (out ++ hdrS 1 m) rfl HM2.out _ m (ys.take m) rfl (src_bytes ((HROW.out.first m (by omega)).below HB2.out)) (k + 5 + m) (out ++ hdrS 1 m ++ ys.take m) rfl rfl (by omega) hsz2 ?_
          intro ra rc p3 hm hb
          have HM3 := Lib.hid hm
          have HB3 : Hid (Below wf.heap.size wf p3) := HB2.out.trans hb
          clear tok hm hb
          refine Hid.out ?_)
        refine unhid ?_
        clear HM2
        have HFIN : Hid (out ++ hdrS 1 m ++ ys.take m = S) := by
          show _ = _
          rw [← HSS.out, storedOf, if_pos (by rw [HROW.out.len]; exact hle), HROW.out.len, List.take_of_length_le (by rw [HROW.out.len]; omega), List.append_assoc]
        have HWR : Hid (RowB p3 ra S.length rc S) := by
          have h1 := HM3.out
          rw [HFIN.out] at h1
          have h2 := h1.1
          rw [← h2] at h1
          exact h1.row (range_of_mem0 HRAN.out)
        have HKL : Hid (k + 5 + m = S.length) := by
          have h1 := HM3.out
          rw [HFIN.out] at h1
          exact h1.1.symm
        have kl := HKL.out
        obtain ⟨sl, esl⟩ : ∃ sl, S.length = sl := ⟨_, rfl⟩
        have HSL := Lib.hid esl
        rw [kl, esl]
        rw [esl] at HWR HRAW
        have hsl3 : sl ≤ 500000 := by omega
        have HRB3 := Lib.hid (HRB.out.below HB3.out)
        have HBW3 : Hid (Below w.heap.size w p3) := HB.out.trans (HB3.out.mono HSZ.out)
        clear HM3 HROW HB2 HBQ HB3 kl esl hle hgt hmn hk5 hsl
        go_wp2_with fail
        refine (storedS_any va n vc xs p3 HRB3.out (by omega)).mono ?_
        rw [HS.out, HSL.out]
        rintro e w5 ⟨⟨sa, sc, rfl, hrow⟩, hb⟩
        have HSR := Lib.hid hrow
        have HWR5 := Lib.hid (HWR.out.below hb)
        have HRB5 := Lib.hid (HRB3.out.below hb)
        have HB5 : Hid (Below w.heap.size w w5) := HBW3.out.trans (hb.mono HBW3.out.size)
        clear hrow hb HWR HRB3 HBW3
        go_wp2_with fail
        refine (raw_row sa sl sc S (n : Int) n w5 HSR.out (by omega) rfl (by omega)).mono ?_
        rintro e w6 (⟨q', m', ya, yc, hr, rfl, hrow, -, hb, -⟩ | ⟨k', hr, hk', rfl, hb⟩)
        · rw [HRAW.out] at hr
          injection hr with hr
          injection hr with h1 h2
          subst h1 h2
          rw [show (8 * sl + 7) / 8 = sl by omega]
          have hxl := HRB.out.len
          rw [hxl] at hrow ⊢
          have HZ := Lib.hid hrow
          have HS6 := Lib.hid (HSR.out.below hb)
          have HW6 := Lib.hid (HWR5.out.below hb)
          have HR6 := Lib.hid (HRB5.out.below hb)
          have HB6 : Hid (Below w.heap.size w w6) := HB5.out.trans (hb.mono HB5.out.size)
          clear hrow hb hxl HSR HWR5 HRB5
          go_wp2_with fail
          refine (known_any w6).mono ?_
          rintro e w7 ⟨rfl, hb7⟩
          have t1 := text_run w7 sa sl sc S (HS6.out.below hb7).bytes
          have t2 := text_run w7 ra sl rc S (HW6.out.below hb7).bytes
          have t3 := text_run w7 ya n yc xs (HZ.out.below hb7).bytes
          have t4 := text_run w7 va n vc xs (HR6.out.below hb7).bytes
          have HB7 : Hid (Below w.heap.size w w7) := HB6.out.trans (hb7.mono HB6.out.size)
          clear hb7 HS6 HW6 HZ HR6 HB6
          go_wp2_with fail
          go_ret
          exact ⟨rfl, HB7.out⟩
        · rw [HRAW.out] at hr; cases hr
      · omega

/-! ### The row's step -/
set_option maxRecDepth 100000 in
theorem lifted (os : Os) (started : os.Started) (H : Type) (enc : TypeId × Value → H) :
    ReturnsInHanded {} Try.checked os 4 .any (Rows.deflateStoredSpec.pre6 enc Try.prog Try.f4 Rows.deflateStoredRow.domain false) (Rows.deflateStoredSpec.post enc Try.prog Try.f4 false true false false) := by
  refine returnsInHanded_of_change (C := Try.checked) own started (by kernel_rfl) Try.func4
    (ChangeSpec.witness6 (enc := enc) (C := Try.checked) false ⟨#[], #[.slice none 0 0, .int .i64 0, .int .i64 0], []⟩ 8 (by kernel_rfl) (by kernel_rfl) (by kernel_rfl) (by kernel_rfl)) ?_
  intro W base args ds gs before hval0 hW hcnd _
  have hval : ∀ (j : Nat) t v, Try.f4.params[j]? = some t → args[j]? = some v → Value.okWide Try.prog W .any base t v := hval0
  have hW' := hW
  obtain ⟨p, q, hA0, hV, rfl, hfz, hnd⟩ := hW
  have hA : DataW.TrodAll enc Try.prog W 0 (fun _ => true) true Try.f4.params.toList args.toList ds p := hA0
  rw [Try.params4] at hA hval
  obtain ⟨v0, vs0, d0, ds0, p0, q0, hargs, rfl, rfl, h0, r0⟩ := trodAll_cons hA
  obtain ⟨v1, vs1, d1, ds1, p1, q1, rfl, rfl, rfl, h1, r1⟩ := trodAll_cons r0
  obtain ⟨v2, vs2, d2, ds2, p2, q2, rfl, rfl, rfl, h2, r2⟩ := trodAll_cons r1
  obtain ⟨rfl, rfl, rfl⟩ := trodAll_nil r2
  obtain rfl : args = #[v0, v1, v2] := by cases args; simp_all
  obtain ⟨rfl, rfl⟩ := trodVars_none hV
  obtain ⟨a0, len0, cap0, rfl⟩ := okWide_slice Try.underlying22 (hval 0 22 v0 rfl rfl)
  have k0 := h0
  have lt0 : ∀ x ∈ p0, x.block < W.heap.size := by obtain ⟨m, hm⟩ := k0; exact DataW.trod_lt m _ _ _ hm
  obtain ⟨z0, w0⟩ : ∃ zs, IsRow .u8 W a0 len0 cap0 zs := by
    obtain ⟨fuel, hf⟩ := h0
    rcases open_ints Try.underlying22 Try.underlying5 (by kernel_rfl) hf with ⟨hcs, _⟩ | ⟨x, l, c, zs, hcs, _, hl, hm, hz, _, hcell, hwz⟩
    · simp [Value.cells] at hcs
      obtain ⟨rfl, rfl, rfl⟩ := hcs
      exact ⟨[], .inl ⟨rfl, rfl, rfl, rfl⟩⟩
    · simp [Value.cells] at hcs
      obtain ⟨rfl, rfl, rfl⟩ := hcs
      exact ⟨zs, .inr ⟨_, rfl, hl, hm, by simpa using hz, hcell, hwz⟩⟩
  obtain ⟨a1, rfl, rfl, rfl, w1⟩ := open_int Try.underlying3 (hval 1 3 v1 rfl rfl) h1
  obtain ⟨a2, rfl, rfl, rfl, w2⟩ := open_int Try.underlying3 (hval 2 3 v2 rfl rfl) h2
  refine (walk a0 len0 cap0 z0 a1 a2 W w0 w1 w2).mono fun e W' ⟨he, bel⟩ => ?_
  subst he
  exact ⟨_, rfl, _, _, _, [], _, [], hW', trodAll_mk1 (shut_bool Try.underlying4 _), (trodAll_cons_mk (Below.trod laidOut (by kernel_rfl) (of_decide_eq_true (by kernel_rfl)) k0 bel lt0) (trodAll_cons_mk (shut_int Try.underlying3 w1) (trodAll_cons_mk (shut_int Try.underlying3 w2) trodAll_mk0))), rfl, bel.frame _, fun h => by cases h⟩

theorem over : Rows.deflateStoredRow.holds Try.pinned (OpenSpec.ofChange Rows.deflateStoredSpec) :=
  OpenClaim.holds_of_wide 4 Try.f4 rfl rfl rfl rfl rfl rfl rfl ⟨rfl, rfl, rfl, rfl, rfl⟩ rfl rfl rfl rfl rfl (by kernel_rfl) Try.func4 (by kernel_rfl)
    (of_decide_eq_true (by kernel_rfl)) (by unfold Func.isWrapper; first | (rw [if_pos (by decide +kernel)]; kernel_rfl) | (rw [if_neg (by decide +kernel)]; exact ⟨rfl, rfl⟩))
    (fun os started H enc _ => lifted os started H enc)

/-- The statement. -/
theorem proved : Rows.DeflateStoredSaid := over
#print axioms proved
end Go.Proofs.Yteaaoigeopekiaa.deflateStored
