/- Bytes in blocks of their own: the walk. -/
import Derived.Test.YtkminkeaeclanaaStoredBack
import Derived.Test.YtkminkeaeclanaaSub
namespace Go.Proofs.Ytkminkeaeclanaa
open Go.RowKit Plain
set_option linter.unusedVariables false
theorem RowB.part {w : World} {a : Option Addr} {n c : Nat} {xs : List Int} (h : RowB w a n c xs) (lo : Nat) (hlo : lo ≤ n) : RowB w (subA a c lo) (n - lo) (c - lo) (xs.drop lo) := by
  have hp := h.bytes.part c lo n hlo (Nat.le_refl _) h.le
  rw [List.take_of_length_le (by rw [List.length_drop, h.len]; omega)] at hp
  exact ⟨by have := h.le; omega, by have := h.cap; omega, subA_nil h.nil, hp⟩
theorem RowB.first {w : World} {a : Option Addr} {n c : Nat} {xs : List Int} (h : RowB w a n c xs) (k : Nat) (hk : k ≤ n) : Bytes w a k (xs.take k) := by
  have := h.bytes.first k
  rwa [show min n k = k by omega] at this
theorem and255 {x : Int} (h : 0 ≤ x ∧ x ≤ 2000) : bits .and .i64 x 255 = x % 256 := by
  show IntKind.i64.wrap ((BitVec.ofInt 64 _ &&& BitVec.ofInt 64 _ : BitVec 64).toNat : Int) = _
  rw [BitVec.toNat_and, BitVec.toNat_ofInt, BitVec.toNat_ofInt]
  obtain ⟨n, rfl⟩ : ∃ n : Nat, x = (n : Int) := ⟨x.toNat, by omega⟩
  have e1 : (((n : Nat) : Int) % ((2 ^ 64 : Nat) : Int)).toNat = n := by omega
  have e2 : ((255 : Int) % ((2 ^ 64 : Nat) : Int)).toNat = 2 ^ 8 - 1 := by decide
  rw [e1, e2, Nat.and_two_pow_sub_one_eq_mod, IntKind.wrap_i64]
  omega
set_option maxRecDepth 100000 in
set_option maxHeartbeats 4000000 in
theorem stored_all (w : World) (a : Option Addr) (n c : Nat) (xs : List Int) (each : Nat) (H : RowB w a n c xs) (hn : n ≤ 2000) (he : 1 ≤ each) (he2 : each ≤ 2000) :
    Calls Try.prog 11 #[.slice a n c, .int .i64 (each : Int)] w fun e w' => (∃ va vc, e = .returned (.slice va (storedOf each (n + 1) xs).length vc) ∧ RowB w' va (storedOf each (n + 1) xs).length vc (storedOf each (n + 1) xs)) ∧ Below w.heap.size w w' := by
  have HLEN := Lib.hid (storedOf_len he (n + 1) xs (by rw [H.len]; omega))
  have HRAN := Lib.hid (storedOf_range he2 (n + 1) xs H.mem)
  have HH := Lib.hid H
  have hl := H.len
  obtain ⟨S, hS⟩ : ∃ S, storedOf each (n + 1) xs = S := ⟨_, rfl⟩
  rw [hS] at HLEN HRAN ⊢
  have HS := Lib.hid hS
  have hsl : S.length ≤ 12005 := by have := HLEN.out; rw [hl] at this; omega
  clear H hS hl
  go_enter Try.func11, Try.ntmps11
  go_wp2_with fail
  go_loopw [0, 5] (fun v vo wr => ∃ (b : Option Addr) (m cc k : Nat) (ys out : List Int), v = .slice b m cc ∧ RowB w b m cc ys ∧ m ≤ n ∧ Mid wr w.heap.size vo k out ∧ out ++ storedOf each (m + 1) ys = S ∧ Below w.heap.size w wr) (fun v _ _ => sizeV v)
  case atStart => exact ⟨a, n, c, 0, xs, [], rfl, HH.out, Nat.le_refl _, Mid.nil _ _, HS.out, Below.refl _ _⟩
  case round =>
    obtain ⟨b, m, cc, k, ys, out, rfl, hrow, hmn, hm, hs, hb⟩ := hrel
    have HROW := Lib.hid hrow
    have HM := Lib.hid hm
    have HSS := Lib.hid hs
    have HB := Lib.hid hb
    obtain ⟨va, vc, rfl, -⟩ := hm.shape
    have hsz : w.heap.size ≤ wr.heap.size := hb.size
    have HMl : Hid (out.length = k) := hm.1
    clear hrow hm hs hb
    have hk5 : k ≤ 12005 := by
      have h1 := congrArg List.length HSS.out
      rw [List.length_append, HMl.out] at h1
      omega
    by_cases hle : m ≤ each
    · have hmin : ∀ W : World, Sem.run Try.prog (Builtin.min_ #[3, 3] 3 #[.int .i64 (m : Int), .int .i64 (each : Int)]) W = .ok (.int .i64 (m : Int)) W := fun W => by
        rw [run_min2, show min (m : Int) (each : Int) = (m : Int) by omega]
      obtain ⟨r, hr⟩ : ∃ r, m % 256 = r := ⟨_, rfl⟩
      obtain ⟨q, hq⟩ : ∃ q, m / 256 = q := ⟨_, rfl⟩
      obtain ⟨s, hs⟩ : ∃ s, 255 - r = s := ⟨_, rfl⟩
      obtain ⟨t, ht⟩ : ∃ t, 255 - q = t := ⟨_, rfl⟩
      have HDR : Hid (hdrS 1 m = [1, (r : Int), (q : Int), (s : Int), (t : Int)]) := by show _ = _; unfold hdrS; rw [hr, hq, hs, ht]; rfl
      have e1 : (m : Int) % 256 = (r : Int) := by omega
      have e2 : (m : Int) / 256 = (q : Int) := by omega
      have e3 : bits .and .i64 (m : Int) 255 = (r : Int) := by rw [and255 (by omega)]; omega
      have e4 : 255 - (r : Int) = (s : Int) := by omega
      have e6 : 255 - (q : Int) = (t : Int) := by omega
      have HRG : Hid (∀ x ∈ [1, (r : Int), (q : Int), (s : Int), (t : Int)], 0 ≤ x ∧ x ≤ 255) := by
        show ∀ x ∈ _, _
        rw [← HDR.out]; exact hdrS_range (by omega) (by omega)
      clear hr hq hs ht
      have HL : Hid (Bytes (wr.alloc (.cells #[.int .u8 1, .int .u8 (r : Int), .int .u8 (q : Int), .int .u8 (s : Int), .int .u8 (t : Int)] 5)) (some ⟨wr.heap.size, 0, none⟩) 5 [1, (r : Int), (q : Int), (s : Int), (t : Int)]) := Bytes.lit wr wr.heap.size rfl [1, (r : Int), (q : Int), (s : Int), (t : Int)] 5 (0, 0) 5 rfl (by omega) HRG.out
      have HN : Hid (Below wr.heap.size wr (wr.alloc (.cells #[.int .u8 1, .int .u8 (r : Int), .int .u8 (q : Int), .int .u8 (s : Int), .int .u8 (t : Int)] 5))) := (Below.refl _ _).alloc (Nat.le_refl _) _
      have hst := slice_to b m cc m (by have := HROW.out.le; omega)
      have hsl := slice_from b m cc m (by omega) HROW.out.le
      have tok : True := trivial
      go_wp2_with (
        have _t := tok
        at_builtin
        refine wpList_append_to rfl _ _ 22 rfl w.heap.size (.slice va k vc) k out rfl (HM.out.below HN.out) _ 5 [1, (r : Int), (q : Int), (s : Int), (t : Int)] rfl (src_bytes HL.out) (k + 5) (out ++ hdrS 1 m) rfl (by rw [HDR.out]) (by omega) (Nat.le_trans hsz HN.out.size) ?_
        intro pa pc p2 hm hb
        have HM2 := Lib.hid hm
        have HB2 : Hid (Below w.heap.size w p2) := (HB.out.trans (HN.out.mono hsz)).trans hb
        clear tok hm hb
        refine Hid.out ?_)
      refine unhid ?_
      have hsz2 : w.heap.size ≤ p2.heap.size := HB2.out.size
      clear HL HN HM e1 e2 e3 e4 e6
      have tok : True := trivial
      go_wp2_with (
        have _t := tok
        at_builtin
        refine wpList_append_to rfl _ _ 22 rfl w.heap.size (.slice pa (k + 5) pc) (k + 5) (out ++ hdrS 1 m) rfl HM2.out _ m (ys.take m) rfl (src_bytes ((HROW.out.first m (by omega)).below HB2.out)) (k + 5 + m) (out ++ hdrS 1 m ++ ys.take m) rfl rfl (by omega) hsz2 ?_
        intro qa qc p3 hm hb
        have HM3 := Lib.hid hm
        have HB3 : Hid (Below w.heap.size w p3) := HB2.out.trans hb
        clear tok hm hb
        refine Hid.out ?_)
      refine unhid ?_
      clear HM2
      go_wp2_with fail
      have hfin : out ++ hdrS 1 m ++ ys.take m = S := by
        rw [← HSS.out, storedOf, if_pos (by rw [HROW.out.len]; exact hle), HROW.out.len, List.take_of_length_le (by rw [HROW.out.len]; omega), List.append_assoc]
      rw [hfin] at HM3
      have hlen := HM3.out.1
      rw [← hlen] at HM3
      go_ret
      exact ⟨⟨qa, qc, by rw [hlen]; rfl, HM3.out.row (range_of_mem0 HRAN.out)⟩, HB3.out⟩
    · have hmin : ∀ W : World, Sem.run Try.prog (Builtin.min_ #[3, 3] 3 #[.int .i64 (m : Int), .int .i64 (each : Int)]) W = .ok (.int .i64 (each : Int)) W := fun W => by
        rw [run_min2, show min (m : Int) (each : Int) = (each : Int) by omega]
      have hne : ((each : Int) == (m : Int)) = false := by simp; omega
      obtain ⟨r, hr⟩ : ∃ r, each % 256 = r := ⟨_, rfl⟩
      obtain ⟨q, hq⟩ : ∃ q, each / 256 = q := ⟨_, rfl⟩
      obtain ⟨s, hs⟩ : ∃ s, 255 - r = s := ⟨_, rfl⟩
      obtain ⟨t, ht⟩ : ∃ t, 255 - q = t := ⟨_, rfl⟩
      have HDR : Hid (hdrS 0 each = [0, (r : Int), (q : Int), (s : Int), (t : Int)]) := by show _ = _; unfold hdrS; rw [hr, hq, hs, ht]; rfl
      have e1 : (each : Int) % 256 = (r : Int) := by omega
      have e2 : (each : Int) / 256 = (q : Int) := by omega
      have e3 : bits .and .i64 (each : Int) 255 = (r : Int) := by rw [and255 (by omega)]; omega
      have e4 : 255 - (r : Int) = (s : Int) := by omega
      have e6 : 255 - (q : Int) = (t : Int) := by omega
      have HRG : Hid (∀ x ∈ [0, (r : Int), (q : Int), (s : Int), (t : Int)], 0 ≤ x ∧ x ≤ 255) := by
        show ∀ x ∈ _, _
        rw [← HDR.out]; exact hdrS_range (by omega) (by omega)
      clear hr hq hs ht
      have HL : Hid (Bytes (wr.alloc (.cells #[.int .u8 0, .int .u8 (r : Int), .int .u8 (q : Int), .int .u8 (s : Int), .int .u8 (t : Int)] 5)) (some ⟨wr.heap.size, 0, none⟩) 5 [0, (r : Int), (q : Int), (s : Int), (t : Int)]) := Bytes.lit wr wr.heap.size rfl [0, (r : Int), (q : Int), (s : Int), (t : Int)] 5 (0, 0) 5 rfl (by omega) HRG.out
      have HN : Hid (Below wr.heap.size wr (wr.alloc (.cells #[.int .u8 0, .int .u8 (r : Int), .int .u8 (q : Int), .int .u8 (s : Int), .int .u8 (t : Int)] 5))) := (Below.refl _ _).alloc (Nat.le_refl _) _
      have hst := slice_to b m cc each (by have := HROW.out.le; omega)
      have hsl := slice_from b m cc each (by omega) HROW.out.le
      have tok : True := trivial
      go_wp2_with (
        have _t := tok
        at_builtin
        refine wpList_append_to rfl _ _ 22 rfl w.heap.size (.slice va k vc) k out rfl (HM.out.below HN.out) _ 5 [0, (r : Int), (q : Int), (s : Int), (t : Int)] rfl (src_bytes HL.out) (k + 5) (out ++ hdrS 0 each) rfl (by rw [HDR.out]) (by omega) (Nat.le_trans hsz HN.out.size) ?_
        intro pa pc p2 hm hb
        have HM2 := Lib.hid hm
        have HB2 : Hid (Below w.heap.size w p2) := (HB.out.trans (HN.out.mono hsz)).trans hb
        clear tok hm hb
        refine Hid.out ?_)
      refine unhid ?_
      have hsz2 : w.heap.size ≤ p2.heap.size := HB2.out.size
      clear HL HN HM e1 e2 e3 e4 e6
      have tok : True := trivial
      go_wp2_with (
        have _t := tok
        at_builtin
        refine wpList_append_to rfl _ _ 22 rfl w.heap.size (.slice pa (k + 5) pc) (k + 5) (out ++ hdrS 0 each) rfl HM2.out _ each (ys.take each) rfl (src_bytes ((HROW.out.first each (by omega)).below HB2.out)) (k + 5 + each) (out ++ hdrS 0 each ++ ys.take each) rfl rfl (by omega) hsz2 ?_
        intro qa qc p3 hm hb
        have HM3 := Lib.hid hm
        have HB3 : Hid (Below w.heap.size w p3) := HB2.out.trans hb
        clear tok hm hb
        refine Hid.out ?_)
      refine unhid ?_
      clear HM2
      go_wp2_with fail
      go_roundw
      case rel =>
        refine ⟨subA b cc each, m - each, cc - each, k + 5 + each, ys.drop each, out ++ hdrS 0 each ++ ys.take each, rfl, HROW.out.part each (by omega), by omega, HM3.out, ?_, HB3.out⟩
        have hyl := HROW.out.len
        have h1 : storedOf each (m + 1) ys = hdrS 0 each ++ ys.take each ++ storedOf each m (ys.drop each) := by rw [storedOf, if_neg (by omega)]
        rw [← HSS.out, h1, storedOf_same he (m - each + 1) m (ys.drop each) (by rw [List.length_drop]; omega) (by rw [List.length_drop]; omega)]
        simp only [List.append_assoc]
      case measure => simp [sizeV]; omega
end Go.Proofs.Ytkminkeaeclanaa
