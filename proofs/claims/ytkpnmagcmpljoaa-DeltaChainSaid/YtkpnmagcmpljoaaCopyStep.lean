/- One copy is written: the walk. -/
import Derived.Test.YtkpnmagcmpljoaaRowSet
import Derived.Test.YtkpnmagcmpljoaaToldMath
import Derived.Test.YtkpnmagcmpljoaaLeb1
import Derived.Test.YtkpnmagcmpljoaaBack
namespace Go.Proofs.Ytkpnmagcmpljoaa
open Go.RowKit Plain
set_option linter.unusedVariables false
theorem or_u8 (n y k : Nat) (h : n < 2 ^ k) (hs : n + y * 2 ^ k < 256) : bits .or .u8 (n : Int) ((y * 2 ^ k : Nat) : Int) = ((n + y * 2 ^ k : Nat) : Int) := by
  show IntKind.u8.wrap ((BitVec.ofInt 8 _ ||| BitVec.ofInt 8 _ : BitVec 8).toNat : Int) = _
  rw [BitVec.toNat_or, BitVec.toNat_ofInt, BitVec.toNat_ofInt]
  have e1 : (((n : Nat) : Int) % ((2 ^ 8 : Nat) : Int)).toNat = n := by omega
  have e2 : (((y * 2 ^ k : Nat) : Int) % ((2 ^ 8 : Nat) : Int)).toNat = y <<< k := by rw [Nat.shiftLeft_eq]; omega
  rw [e1, e2, Nat.or_comm, ← Nat.shiftLeft_add_eq_or_of_lt h, Nat.shiftLeft_eq, IntKind.wrap_u8]
  generalize y * 2 ^ k = z at *
  omega
theorem or_mask : ∀ n k : Nat, k < 7 → n < 2 ^ k → bits .or .u8 ((128 + n : Nat) : Int) ((2 ^ k : Nat) : Int) = ((128 + n + 2 ^ k : Nat) : Int) := by
  have h : ∀ k : Nat, k < 7 → ∀ n : Nat, n < 128 → n < 2 ^ k → bits .or .u8 ((128 + n : Nat) : Int) ((2 ^ k : Nat) : Int) = ((128 + n + 2 ^ k : Nat) : Int) := by decide +kernel
  intro n k hk hn
  refine h k hk n ?_ hn
  exact Nat.lt_of_lt_of_le hn (by have := Nat.pow_le_pow_right (n := 2) (by omega) (show k ≤ 7 by omega); simpa using this)
theorem Mid.free {w : World} {base : Nat} {n c g o : Nat} {xs : List Int} (h : Mid w base (.slice (some ⟨g, o, none⟩) n c) n xs) (j : Nat) (hj : j < n) : w.frozen? ⟨g, o + j, none⟩ = false := by
  obtain ⟨hl, ⟨e, h0⟩ | ⟨g', o', cap, e, hb, hlt, hnc, hc, hr, ht⟩⟩ := h
  · omega
  · simp only [Value.slice.injEq, Option.some.injEq, Addr.mk.injEq, true_and, and_true] at e
    obtain ⟨⟨rfl, rfl⟩, rfl⟩ := e
    exact (ht j (by omega)).2
set_option maxRecDepth 100000 in
set_option maxHeartbeats 8000000 in
theorem copyStep_any (s0 Wb Mb : Nat) (D P : List Int) (place size : Nat) (hp : place < 4294967296) (hz : size < 16777216) (hD : D.length ≤ 1000000000) (w : World) (hs : s0 ≤ w.heap.size) (H : Wr w s0 Wb Mb D P) :
    Calls Try.prog 32 #[.pointer (some ⟨Wb, 0, none⟩), .int .i64 (place : Int), .int .i64 (size : Int)] w fun e w' => e = .returned (.tuple #[]) ∧ Wr w' s0 Wb Mb (D ++ toldOf (place + size * 4294967296)) P ∧ Fr s0 Mb w w' := by
  obtain ⟨dv, pv, dn, pn, hw⟩ := H
  obtain ⟨da, dc, rfl, hdc, -, -⟩ := hw.2.1.shape
  obtain ⟨hc0, hc1, hf0, hf1⟩ := raw_cells hw.1
  have hdl : D.length = dn := hw.2.1.1
  have HR : Hid (Raw w s0 Wb Mb (.slice da dn dc) dn D pv pn P) := hw
  have hor := or_high place size 32 (by omega) (by omega)
  have HDL := Lib.hid hdl
  obtain ⟨x, hx⟩ : ∃ x, place + size * 4294967296 = x := ⟨_, rfl⟩
  have hx2 : place + size * 2 ^ 32 = x := hx
  have hxl : x < 72057594037927936 := by omega
  rw [hx]
  rw [hx2] at hor
  have hor2 : bits .or .i64 (place : Int) ((size : Int) * 4294967296) = (x : Int) := by
    rw [← hor]; congr 1
  clear hor
  have hdn : dn ≤ 1000000000 := by omega
  clear hw hx hx2 hdl hD
  have HB0 : Hid (Below w.heap.size w (w.alloc (.cells #[.int .u8 128] 5))) := (Below.refl _ _).alloc (Nat.le_refl _) _
  go_enter Try.func32, Try.ntmps32
  have tok : True := trivial
  go_wp2_with (
    have _t := tok
    at_builtin
    refine wpList_append_mid rfl _ _ 22 rfl s0 (.slice da dn dc) dn D rfl (HR.out.2.1.below HB0.out) _ 1 [128] rfl (src_bytes (Bytes.lit w w.heap.size rfl [128] 5 (0, 0) 1 rfl (by omega) (by intro y hy; simp at hy; omega))) (by omega) (by simp; omega) ?_
    intro v2 w2 hm2 hg2 ho2
    obtain ⟨d2, c2, e2, -⟩ := hm2.shape
    subst e2
    have HM2 := Lib.hid hm2
    have HG2 := Lib.hid hg2
    have HO2 := Lib.hid ho2
    clear tok hm2 hg2 ho2
    refine Hid.out ?_)
  refine unhid ?_
  have hrow := raw_row HR.out hs HB0.out HM2.out HG2.out HO2.out
  obtain ⟨hc0', hc1', hf0', hf1'⟩ := raw_cells hrow.1
  have HR2 := Lib.hid hrow.2.1
  have HF2 := Lib.hid hrow.2.2
  clear hrow HM2 HG2 HO2 hc0 hc1 hf0 hf1 HB0
  go_wp2_with fail
  obtain ⟨w3, hw3⟩ : ∃ w3, w2.setCell ⟨Wb, 0, none⟩ (.slice d2 (dn + 1) c2) = w3 := ⟨_, rfl⟩
  rw [hw3] at HR2 HF2
  rw [hw3]
  clear hw3 hc0' hc1' hf0' hf1' hor2
  go_loopw [28] (fun v wr => ∃ k : Nat, v = .int .i64 (k : Int) ∧ k ≤ 7 ∧ Wr wr s0 Wb Mb (D ++ ((128 + maskN x k : Nat) : Int) :: bytesFrom x 0 k) P ∧ Fr s0 Mb w wr) (fun v _ => 7 - (intOf v).toNat)
  case atStart => exact ⟨0, rfl, by omega, HR2.out.wr, HF2.out⟩
  case round =>
    obtain ⟨k, rfl, hk, ⟨dv, pv, dn3, pn, hw⟩, hf⟩ := hrel
    obtain ⟨da3, dc3, rfl, hdc3, -, -⟩ := hw.2.1.shape
    have hln : dn3 = (D ++ ((128 + maskN x k : Nat) : Int) :: bytesFrom x 0 k).length := hw.2.1.1.symm
    have hbl := bytesFrom_len x k 0
    rw [List.length_append, List.length_cons, HDL.out] at hln
    have hd0 : dn < dn3 := by omega
    have hd1 : dn3 ≤ dn + 8 := by omega
    obtain ⟨g, o, rfl, hcell⟩ := hw.2.1.at (by omega)
    obtain ⟨hc0, hc1, hf0, hf1⟩ := raw_cells hw.1
    have HR3 : Hid (Raw wr s0 Wb Mb (.slice (some ⟨g, o, none⟩) dn3 dc3) dn3 (D ++ ((128 + maskN x k : Nat) : Int) :: bytesFrom x 0 k) pv pn P) := hw
    have HF := Lib.hid hf
    have hsr : s0 ≤ wr.heap.size := Nat.le_trans hs hf.below.size
    have q1 := hcell dn hd0
    rw [List.getElem?_append_right (by rw [HDL.out]; exact Nat.le_refl _), HDL.out, Nat.sub_self] at q1
    have q2 : wr.frozen? ⟨g, o + dn, none⟩ = false := Mid.free HR3.out.2.1 dn (by omega)
    simp only [List.getElem?_cons_zero, Option.getD_some] at q1
    clear hw hf hcell hln hbl
    by_cases hlt : k < 7
    · have hlti : decide ((k : Int) < 7) = true := by simp; omega
      have hml := maskN_lt x k
      have hom := or_mask (maskN x k) k hlt hml
      have HDG : Hid (dig x k = 0 ∨ dig x k ≠ 0) := by by_cases h : dig x k = 0; exact .inl h; exact .inr h
      have HM1 : Hid (maskN x (k + 1) = maskN x k + if dig x k = 0 then 0 else 2 ^ k) := rfl
      have HB1 : Hid (bytesFrom x 0 (k + 1) = bytesFrom x 0 k ++ if dig x k = 0 then [] else [(dig x k : Int)]) := by
        have := bytesFrom_end x k 0
        rw [Nat.zero_add] at this
        exact this
      have hd8 : dig x k ≤ 255 := by unfold dig; omega
      have hdg : (x : Int) / 2 ^ (8 * k) % 256 = (dig x k : Int) := by
        unfold dig; simp
      obtain ⟨b, hb⟩ : ∃ b, dig x k = b := ⟨_, rfl⟩
      rw [hb] at HDG HM1 HB1 hd8 hdg
      clear hb
      obtain ⟨mk, hmk⟩ : ∃ mk, 128 + maskN x k = mk := ⟨_, rfl⟩
      obtain ⟨mz, hmz⟩ : ∃ mz, 128 + maskN x k + 2 ^ k = mz := ⟨_, rfl⟩
      have HMZ : Hid (128 + maskN x k + 2 ^ k = mz) := hmz
      rw [hmz, hmk] at hom
      rw [hmk] at q1 HR3
      have HMK := Lib.hid hmk
      have hom2 : bits .or .u8 (mk : Int) (2 ^ k % 256) = (mz : Int) := by
        rw [← hom]; congr 1
        have h2 : 2 ^ k < 256 := Nat.lt_of_le_of_lt (Nat.pow_le_pow_right (n := 2) (by omega) (show k ≤ 7 by omega)) (by decide)
        simp only [Int.natCast_pow, Int.cast_ofNat_Int]
        have h3 : ((2 ^ k : Nat) : Int) = 2 ^ k := by simp
        omega
      clear hmk hmz hom
      by_cases hb0 : b = 0
      · have hbi : ((b : Int) != 0) = false := by simp; omega
        go_wp2_with fail
        refine ⟨⟨k + 1, by go_num, by omega, ?_, HF.out⟩, by simp [intOf]; omega⟩
        rw [HM1.out, HB1.out, if_pos hb0, if_pos hb0, List.append_nil, Nat.add_zero, HMK.out]
        exact HR3.out.wr
      · have hbi : ((b : Int) != 0) = true := by simp; omega
        go_wp2_with fail
        rw [hdg]
        apply wp_via
        · go_region
          all_goals exact ⟨rfl, rfl, rfl⟩
        have hset := raw_set HR3.out hsr dn hd0 (mz : Int)
        obtain ⟨w4, hw4⟩ : ∃ w4, (wr.setCell ⟨g, o + dn, none⟩ (.int .u8 (mz : Int))).drew = w4 := ⟨_, rfl⟩
        have hs4 := hset.1.drew
        have hf4 := hset.2.drew
        have hD4 : (D ++ (mk : Int) :: bytesFrom x 0 k).set dn (mz : Int) = D ++ (mz : Int) :: bytesFrom x 0 k := by
          rw [List.set_append_right _ _ (by rw [HDL.out]; exact Nat.le_refl _), HDL.out, Nat.sub_self]; rfl
        rw [hw4, hD4] at hs4
        rw [hw4] at hf4
        rw [hw4]
        have HR4 := Lib.hid hs4
        have HF4 := Lib.hid (HF.out.trans hf4)
        have hsr4 : s0 ≤ w4.heap.size := Nat.le_trans hs HF4.out.below.size
        have HB4 : Hid (Below w4.heap.size w4 (w4.alloc (.cells #[.int .u8 (b : Int)] 5))) := (Below.refl _ _).alloc (Nat.le_refl _) _
        clear hset hw4 hs4 hf4 hD4 hc0 hc1 hf0 hf1 q1 q2 hdg hom2
        obtain ⟨hc0, hc1, hf0, hf1⟩ := raw_cells HR4.out.1
        have tok : True := trivial
        go_wp2_with (
          have _t := tok
          at_builtin
          refine wpList_append_mid rfl _ _ 22 rfl s0 (.slice (some ⟨g, o, none⟩) dn3 dc3) dn3 (D ++ (mz : Int) :: bytesFrom x 0 k) rfl (HR4.out.2.1.below HB4.out) _ 1 [(b : Int)] rfl (src_bytes (Bytes.lit w4 w4.heap.size rfl [(b : Int)] 5 (0, 0) 1 rfl (by omega) (by intro y hy; simp at hy; omega))) (by omega) (by simp; omega) ?_
          intro v5 w5 hm5 hg5 ho5
          obtain ⟨d5, c5, e5, -⟩ := hm5.shape
          subst e5
          have HM5 := Lib.hid hm5
          have HG5 := Lib.hid hg5
          have HO5 := Lib.hid ho5
          clear tok hm5 hg5 ho5
          refine Hid.out ?_)
        refine unhid ?_
        have hrow := raw_row HR4.out hsr4 HB4.out HM5.out HG5.out HO5.out
        obtain ⟨mc0, mc1, mf0, mf1⟩ := raw_cells hrow.1
        have HR6 := Lib.hid hrow.2.1
        have HF6 := Lib.hid (HF4.out.trans hrow.2.2)
        clear hrow HM5 HG5 HO5 hc0 hc1 hf0 hf1 HB4
        go_wp2_with fail
        refine ⟨⟨k + 1, by go_num, by omega, ?_, HF6.out⟩, by simp [intOf]; omega⟩
        have := HR6.out.wr
        rw [HM1.out, HB1.out, if_neg hb0, if_neg hb0, ← Nat.add_assoc, HMZ.out]
        simpa using this
    · have hlti : decide ((k : Int) < 7) = false := by simp; omega
      obtain rfl : k = 7 := by omega
      go_wp2_with fail
      go_end0
      exact ⟨rfl, HR3.out.wr, HF.out⟩
end Go.Proofs.Ytkpnmagcmpljoaa
