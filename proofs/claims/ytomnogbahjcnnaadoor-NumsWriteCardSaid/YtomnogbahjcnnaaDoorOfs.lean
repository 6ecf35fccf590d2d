/- A number's sevens, the highest first: the walk. -/
import Derived.Test.YtomnogbahjcnnaaDoorHead
namespace Go.Proofs.YtomnogbahjcnnaaDoor
open Go.RowKit Plain
set_option linter.unusedVariables false
theorem gatherOfs_any (B x : Nat) (a : Option Addr) (n c : Nat) (xs : List Int) (w : World) (hx : x < 256) (hn : n ≤ 1000000) (H : Held w B a n c xs) :
    Calls Tryd.prog 26 #[.int .i64 (x : Int), .pointer (some ⟨B, 0, none⟩)] w fun e w' => e = .returned (.tuple #[]) ∧ (∃ a' c', Held w' B a' (n + 1) c' (xs ++ [(x : Int)])) ∧ Below B w w' := by
  have HH : Hid (Held w B a n c xs) := H
  have c0 : w.cell? ⟨B, 0, none⟩ = some (.slice a n c) := (cell_of_row0 _ _ 0 _ _ H.cell).trans rfl
  have HLT : Hid (B < w.heap.size) := H.lt
  have hw8 : IntKind.u8.wrap (x : Int) = (x : Int) := by rw [IntKind.wrap_u8]; omega
  have HB0 : Hid (Below w.heap.size w (w.alloc (.cells #[.int .u8 (x : Int)] 5))) := (Below.refl _ _).alloc (Nat.le_refl _) _
  have HO0 : Hid (Own (w.alloc (.cells #[.int .u8 (x : Int)] 5)) (B + 1) (.slice a n c) n xs) := HH.out.own.below HB0.out
  have HL0 : Hid (Bytes (w.alloc (.cells #[.int .u8 (x : Int)] 5)) (some ⟨w.heap.size, 0, none⟩) 1 [(x : Int)]) := Bytes.lit w _ rfl [(x : Int)] 5 (0, 0) 1 rfl (by omega) (by simp; omega)
  clear H
  go_enter Tryd.func26, Tryd.ntmps26
  go_wp2_with (
    at_builtin
    refine wpList_append_bytes rfl _ _ rfl (B + 1) _ n xs rfl HO0.out _ 1 1 [(x : Int)] rfl HL0.out (fun e => by cases e) (by omega) (Nat.le_trans HLT.out HB0.out.size) ?_
    intro v' w4 hown4 hg4
    have HW4 : Hid (Below (B + 1) w w4) := (HB0.out.mono HLT.out).trans (HO0.out.kept (Nat.le_trans HLT.out HB0.out.size) hg4)
    have HO4 : Hid (Own w4 (B + 1) v' (n + 1) (xs ++ [(x : Int)])) := hown4
    obtain ⟨a4, c4, e4, -, -, -⟩ := hown4.shape
    subst e4
    have HC4 : Hid (w4.heap[B]? = some (.cells #[.slice a n c] 23 (0, 0))) := (HW4.out.block B (by omega)).trans HH.out.cell
    have c4' : w4.cell? ⟨B, 0, none⟩ = some (.slice a n c) := (cell_of_row0 _ _ 0 _ _ HC4.out).trans rfl
    have f4' : w4.frozen? ⟨B, 0, none⟩ = false := by simp [World.frozen?, HC4.out]
    clear hown4 hg4)
  go_end0
  exact ⟨rfl, ⟨a4, c4, (heap_setCell_same w4 B 0 _ _ _ HC4.out).trans rfl, own_setCell HO4.out (Nat.lt_succ_self B) _⟩, (HW4.out.mono (Nat.le_succ B)).setCell (Nat.le_refl _) _⟩
namespace Plain
/-- The further sevens of an offset, as they come. -/
def ofsF : Nat → Nat → List Int
  | 0, _ => []
  | f + 1, n => if n < 128 then [] else (((n / 128 - 1) % 128 + 128 : Nat) : Int) :: ofsF f (n / 128 - 1)
def ofsRise (n : Nat) : List Int := ((n % 128 : Nat) : Int) :: ofsF 9 n
def ofsBytes (n : Nat) : List Int := (ofsRise n).reverse
theorem ofsF_len : ∀ f n, (ofsF f n).length ≤ f
  | 0, n => by simp [ofsF]
  | f + 1, n => by
    rw [ofsF]
    split
    · simp
    · have := ofsF_len f (n / 128 - 1)
      simp only [List.length_cons]; omega
theorem ofsF_bytes : ∀ f n, ∀ x ∈ ofsF f n, 0 ≤ x ∧ x ≤ 255
  | 0, n, x, h => by simp [ofsF] at h
  | f + 1, n, x, h => by
    rw [ofsF] at h
    split at h
    · simp at h
    · rcases List.mem_cons.1 h with rfl | h
      · omega
      · exact ofsF_bytes f _ x h
theorem ofsRise_bytes (n : Nat) : ∀ x ∈ ofsRise n, 0 ≤ x ∧ x ≤ 255 := by
  intro x h
  unfold ofsRise at h
  rcases List.mem_cons.1 h with rfl | h
  · omega
  · exact ofsF_bytes 9 n x h
theorem ofsRise_len (n : Nat) : (ofsRise n).length ≤ 10 := by
  have := ofsF_len 9 n
  unfold ofsRise
  simp only [List.length_cons]; omega
end Plain
theorem row_set (L j i : Nat) (r : List Int) (hi : L = i + 1 + j) (x : Int) :
    ((List.replicate (L - j) (0 : Int) ++ r).map (Value.int .u8)).toArray.setIfInBounds i (.int .u8 x) = ((List.replicate (L - (j + 1)) (0 : Int) ++ (x :: r)).map (Value.int .u8)).toArray := by
  rw [show L - j = i + 1 by omega, show L - (j + 1) = i by omega, List.replicate_succ']
  apply Array.toList_inj.1
  simp
theorem row_get (L j i : Nat) (r : List Int) (hi : L = i + 1 + j) : ((List.replicate (L - j) (0 : Int) ++ r).map (Value.int .u8)).toArray[i]? = some (.int .u8 0) := by
  rw [show L - j = i + 1 by omega]
  simp [List.getElem?_append]
theorem sub_rule (L j i : Nat) (hi : L = i + 1 + j) : ∀ l' : Int, l' = (L : Int) → l' - 1 - (j : Int) = (i : Int) := fun l' h => by rw [h]; omega
theorem div_rule128 (n q : Nat) (h : n / 128 = q) : ∀ n' : Int, n' = (n : Int) → n' / 128 = (q : Int) := fun n' hn => by rw [hn, ← h]; simp
set_option maxRecDepth 100000 in
set_option maxHeartbeats 4000000 in
theorem ofs_any (n : Nat) (hn : n ≤ 4611686018427387903) (w : World) :
    Calls Tryd.prog 13 #[.int .i64 (n : Int)] w fun e w' => (∃ a k c, e = .returned (.slice a k c) ∧ Own w' w.heap.size (.slice a k c) k (ofsBytes n)) ∧ Below w.heap.size w w' := by
  have hn1 : ¬ (n : Int) < 0 := by omega
  have hn2 : ¬ (4611686018427387903 : Int) < n := by omega
  have hl0 := and_127 n hn
  obtain ⟨l0, hl⟩ : ∃ l0, n % 128 = l0 := ⟨_, rfl⟩
  have hl5 : l0 < 256 := by omega
  rw [hl] at hl0
  have HRI : Hid (ofsRise n = (l0 : Int) :: ofsF 9 n) := by show _ = _; unfold ofsRise; rw [hl]
  clear hl
  have hh0 := held_nil w
  go_enter Tryd.func13, Tryd.ntmps13
  go_wp2_with fail
  refine (gatherOfs_any w.heap.size l0 none 0 0 [] _ hl5 (by omega) hh0).mono ?_
  rintro e w1 ⟨rfl, ⟨a1, c1, hh1⟩, hb1⟩
  have HH1 : Hid (Held w1 w.heap.size a1 1 c1 [(l0 : Int)]) := hh1
  have HB1 : Hid (Below w.heap.size w w1) := ((Below.refl _ _).alloc (Nat.le_refl _) _).trans hb1
  clear hh0 hh1 hb1
  go_wp2_with fail
  go_loopw [0] (fun v wr => ∃ (k m : Nat) (a : Option Addr) (c : Nat) (xs : List Int), k ≤ 9 ∧ v = .int .i64 (m : Int) ∧ m ≤ 4611686018427387903 / 128 ^ k ∧ Held wr w.heap.size a (k + 1) c xs ∧ ofsRise n = xs ++ ofsF (9 - k) m ∧ Below w.heap.size w wr) (fun v _ => (intOf v).toNat)
  case atStart => exact ⟨0, n, a1, c1, [(l0 : Int)], by omega, rfl, by simpa using hn, HH1.out, HRI.out, HB1.out⟩
  case round =>
    clear HH1 HB1 HRI
    obtain ⟨k, m, a, c, xs, hk, rfl, hm, hh, hl, hb⟩ := hrel
    have HH : Hid (Held wr w.heap.size a (k + 1) c xs) := hh
    have HL : Hid (ofsRise n = xs ++ ofsF (9 - k) m) := hl
    have HB : Hid (Below w.heap.size w wr) := hb
    have HM : Hid (m ≤ 4611686018427387903 / 128 ^ k) := hm
    have hm5 : m ≤ 4611686018427387903 := Nat.le_trans hm (Nat.div_le_self _ _)
    clear hh hl hb hm
    by_cases hbig : 128 ≤ m
    · have hbi : (128 : Int) ≤ m := by omega
      have HK9 : Hid (k < 9) := by
        rcases Nat.lt_or_ge k 9 with h | h
        · exact h
        · have h9 : k = 9 := by omega
          have := HM.out
          rw [h9] at this
          have e : (4611686018427387903 : Nat) / 128 ^ 9 = 0 := by decide
          omega
      have HMN : Hid (m / 128 - 1 ≤ 4611686018427387903 / 128 ^ (k + 1)) := by
        show _ ≤ _
        rw [Nat.pow_succ, ← Nat.div_div_eq_div_mul]
        exact Nat.le_trans (Nat.sub_le _ _) (Nat.div_le_div_right HM.out)
      have HLN : Hid (ofsRise n = (xs ++ [(((m / 128 - 1) % 128 + 128 : Nat) : Int)]) ++ ofsF (9 - (k + 1)) (m / 128 - 1)) := by
        show _ = _
        rw [HL.out, show 9 - k = (9 - (k + 1)) + 1 by have := HK9.out; omega, ofsF, if_neg (by omega), List.append_assoc]
        rfl
      obtain ⟨q1, hq1⟩ : ∃ q1, m / 128 = q1 := ⟨_, rfl⟩
      have hmq := div_rule128 m q1 hq1
      have hq1p : 1 ≤ q1 := by omega
      obtain ⟨q, hq⟩ : ∃ q, q1 - 1 = q := ⟨_, rfl⟩
      have HQ : Hid (q < m) := by show q < m; omega
      have hq5 : q ≤ 4611686018427387903 := by omega
      have hqi : ∀ q' : Int, q' = (q1 : Int) → q' - 1 = (q : Int) := fun q' h => by rw [h]; omega
      have ha := and_127 q hq5
      rw [hq1, hq] at HMN HLN
      obtain ⟨d, hd⟩ : ∃ d, q % 128 = d := ⟨_, rfl⟩
      have hd5 : d < 128 := by omega
      rw [hd] at ha HLN
      have ho := or_128 d hd5
      obtain ⟨u, hu⟩ : ∃ u, d + 128 = u := ⟨_, rfl⟩
      have hu5 : u < 256 := by omega
      rw [hu] at ho HLN
      clear hd hu hq hq1 HL HM
      have hk6 : k + 1 ≤ 1000000 := by omega
      go_wp2_with fail
      refine (gatherOfs_any w.heap.size u a (k + 1) c xs wr hu5 hk6 HH.out).mono ?_
      rintro e w2 ⟨rfl, ⟨a2, c2, hh2⟩, hb2⟩
      have HH2 : Hid (Held w2 w.heap.size a2 (k + 1 + 1) c2 (xs ++ [(u : Int)])) := hh2
      have HB2 : Hid (Below w.heap.size w w2) := HB.out.trans hb2
      clear hh2 hb2
      go_wp2_with fail
      exact ⟨⟨k + 1, q, a2, c2, xs ++ [(u : Int)], HK9.out, rfl, HMN.out, HH2.out, HLN.out, HB2.out⟩, by simp [intOf]; exact HQ.out⟩
    · have hbi : ¬ (128 : Int) ≤ m := by omega
      have HLN : Hid (ofsRise n = xs) := by
        show _ = _
        rw [HL.out]
        have e : ofsF (9 - k) m = [] := by
          cases 9 - k with
          | zero => rfl
          | succ f => rw [ofsF, if_pos (by omega)]
        rw [e, List.append_nil]
      have cb : wr.cell? ⟨w.heap.size, 0, none⟩ = some (.slice a (k + 1) c) := (cell_of_row0 _ _ 0 _ _ HH.out.cell).trans rfl
      obtain ⟨L, hLk⟩ : ∃ L, k + 1 = L := ⟨_, rfl⟩
      have hL5 : L ≤ 10 := by omega
      rw [hLk] at HH cb
      clear hLk HL HM
      have HBY : Hid (Bytes wr a L xs) := by
        have := HH.out.own.bytes (range_of_mem (by rw [← HLN.out]; exact ofsRise_bytes n))
        exact this
      have HXL : Hid (xs.length = L) := HBY.out.1
      have mk := make_zs L (by omega)
      have HR0 : Hid ((wr.alloc (.cells (Zs L) 5)).heap[wr.heap.size]? = some (.cells (Zs L) 5 (0, 0))) := heap_alloc_new wr _
      have HB0 : Hid (Below wr.heap.size wr (wr.alloc (.cells (Zs L) 5))) := (Below.refl _ _).alloc (Nat.le_refl _) _
      have HWB : Hid (w.heap.size < wr.heap.size) := HH.out.lt
      have cb2 : (wr.alloc (.cells (Zs L) 5)).cell? ⟨w.heap.size, 0, none⟩ = some (.slice a L c) := (HB0.out.cell (p := ⟨w.heap.size, 0, none⟩) HWB.out).trans cb
      obtain ⟨W0, hW0⟩ : ∃ W0, W0 = wr := ⟨_, rfl⟩
      subst hW0
      go_wp2_with fail
      go_loopw [34] (fun i wq => ∃ j : Nat, i = .int .i64 (j : Int) ∧ j ≤ L ∧ wq.heap[W0.heap.size]? = some (.cells ((List.replicate (L - j) (0 : Int) ++ (xs.take j).reverse).map (Value.int .u8)).toArray 5 (0, 0)) ∧ Below W0.heap.size W0 wq) (fun i _ => L - (intOf i).toNat)
      case atStart => exact ⟨0, rfl, by omega, by simpa [Zs] using HR0.out, HB0.out⟩
      case round =>
        clear HR0 HB0 cb cb2 mk
        obtain ⟨j, rfl, hj, hrow, hbel⟩ := hrel
        have HRW : Hid (wr.heap[W0.heap.size]? = some (.cells ((List.replicate (L - j) (0 : Int) ++ (xs.take j).reverse).map (Value.int .u8)).toArray 5 (0, 0))) := hrow
        have HBE : Hid (Below W0.heap.size W0 wr) := hbel
        clear hrow hbel
        by_cases hjL : j < L
        · have hji : (j : Int) < L := by omega
          obtain ⟨i, hi⟩ : ∃ i, L = i + 1 + j := ⟨L - 1 - j, by omega⟩
          obtain ⟨b, off, rfl, hcell⟩ : ∃ b off, a = some ⟨b, off, none⟩ ∧ wr.cell? ⟨b, off + j, none⟩ = some (.int .u8 (xs[j]?.getD 0)) := by
            rcases HBY.out.2.2.2 with h | ⟨b, off, h1, h2⟩
            · omega
            · exact ⟨b, off, h1, (HBE.out.cell (p := ⟨b, _, none⟩) (World.block_lt_of_cell? W0 _ (h2 j hjL))).trans (h2 j hjL)⟩
          have HTK : Hid ((xs.take (j + 1)).reverse = xs[j]?.getD 0 :: (xs.take j).reverse) := by
            show _ = _
            rw [List.take_succ_eq_append_getElem (by rw [HXL.out]; exact hjL), List.reverse_append, List.getElem?_eq_getElem (by rw [HXL.out]; exact hjL)]
            rfl
          obtain ⟨z, hz⟩ : ∃ z, xs[j]?.getD 0 = z := ⟨_, rfl⟩
          rw [hz] at hcell HTK
          have hsr := sub_rule L j i hi
          have ci : wr.cell? ⟨W0.heap.size, i, none⟩ = some (.int .u8 0) := (cell_of_row0 _ _ i _ _ HRW.out).trans (row_get L j i _ hi)
          have fi : wr.frozen? ⟨W0.heap.size, i, none⟩ = false := by simp [World.frozen?, HRW.out]
          have HR1 : Hid ((wr.setCell ⟨W0.heap.size, i, none⟩ (.int .u8 z)).heap[W0.heap.size]? = some (.cells ((List.replicate (L - (j + 1)) (0 : Int) ++ (xs.take (j + 1)).reverse).map (Value.int .u8)).toArray 5 (0, 0))) := by
            show _ = _
            rw [heap_setCell_same wr _ i _ _ _ HRW.out, row_set L j i _ hi, HTK.out]
          have HB1 : Hid (Below W0.heap.size W0 (wr.setCell ⟨W0.heap.size, i, none⟩ (.int .u8 z))) := HBE.out.setCell (Nat.le_refl _) _
          have hiL : i < L := by omega
          clear hz hi
          go_wp2_with fail
          exact ⟨⟨j + 1, by go_num, by omega, HR1.out, HB1.out⟩, by simp [intOf]; omega⟩
        · have hjeq : j = L := by omega
          subst hjeq
          have HRF : Hid (wr.heap[W0.heap.size]? = some (.cells ((ofsBytes n).map (Value.int .u8)).toArray 5 (0, 0))) := by
            have := HRW.out
            rw [Nat.sub_self, List.take_of_length_le (by rw [HXL.out]; exact Nat.le_refl _)] at this
            show _ = _
            unfold ofsBytes
            rw [HLN.out]
            simpa using this
          have hji : ¬ (j : Int) < j := by omega
          go_wp2_with fail
          go_ret
          refine ⟨⟨_, _, _, rfl, ?_⟩, HB.out.trans (HBE.out.mono (Nat.le_of_lt HWB.out))⟩
          have hlen : (ofsBytes n).length = j := by unfold ofsBytes; rw [List.length_reverse, HLN.out]; exact HXL.out
          refine ⟨by rw [List.length_map, Nat.mul_one]; exact hlen, .inr ⟨W0.heap.size, j, _, rfl, Nat.le_of_lt HWB.out, HRF.out, Nat.le_refl _, by unfold maxLen; omega, by simp [hlen], by rw [List.take_of_length_le (by simp [hlen])]⟩⟩
end Go.Proofs.YtomnogbahjcnnaaDoor
