/- The document's unpacking: are lengths a good code's? -/
import Derived.Test.YtglgchjkonjpiaaGreatDoorRefA
import Derived.Test.YtglgchjkonjpiaaGreatDoorCodeOf
import Derived.Test.YtglgchjkonjpiaaGreatDoorRefSign
import Derived.Test.YtglgchjkonjpiaaGreatDoorBase
/-! The document's unpacking: are lengths a good code's? -/
namespace Go.Proofs.YtglgchjkonjpiaaGreatDoor
open Go.RowKit Plain
set_option linter.unusedVariables false
set_option linter.unusedSimpArgs false
structure GSt where
  sum : Nat
  many : Nat
  first : Nat
def gdTo (ls : List Nat) : Nat → GSt
  | 0 => ⟨0, 0, 0⟩
  | i + 1 => if 0 < ls.getD i 0 then ⟨(gdTo ls i).sum + 32768 / 2 ^ ls.getD i 0, (gdTo ls i).many + 1, ls.getD i 0⟩ else gdTo ls i
def goodR (ls : List Nat) (none : Bool) : Bool := (gdTo ls ls.length).sum == 32768 || ((gdTo ls ls.length).many == 1 && (gdTo ls ls.length).first == 1) || (none && (gdTo ls ls.length).many == 0)
set_option maxRecDepth 100000 in
set_option maxHeartbeats 8000000 in
theorem rgood_any (w : World) (a : Option Addr) (n c : Nat) (ls : List Nat) (none : Bool) (hnc : n ≤ c) (hn : n ≤ 1000) (H : NumsAt w a n ls) (h15 : ∀ i, ls.getD i 0 ≤ 15) :
    Calls Tryz.prog 55 #[.slice a n c, .bool none] w fun e w' => e = .returned (.bool (goodR ls none)) ∧ w = w' := by
  have HH := Lib.hid H
  have H15 := Lib.hid h15
  have HLN : Hid (ls.length = n) := H.1
  clear H h15
  go_enter Tryz.func55, Tryz.ntmps55
  go_wp2_with fail
  go_loopw [5, 6, 7, 8] (fun vs vm vf vi wz => ∃ (i : Nat) (st : GSt), vi = .int .i64 (i : Int) ∧ i ≤ n ∧ gdTo ls i = st ∧ vs = .int .i64 (st.sum : Int) ∧ vm = .int .i64 (st.many : Int) ∧ vf = .int .i64 (st.first : Int) ∧ st.sum ≤ 32768 * i ∧ st.many ≤ i ∧ st.first ≤ 15 ∧ wz = w) (fun _ _ _ vi _ => n - (intOf vi).toNat)
  case atStart => exact ⟨0, ⟨0, 0, 0⟩, rfl, Nat.zero_le _, rfl, rfl, rfl, rfl, Nat.zero_le _, Nat.zero_le _, Nat.zero_le _, rfl⟩
  case round =>
    obtain ⟨i, ⟨su, ma, fi⟩, rfl, hi, hst, rfl, rfl, rfl, h1, h2, h3, rfl⟩ := hrel
    have HST := Lib.hid hst
    simp only at h1 h2 h3 ⊢
    clear hst
    by_cases hlt : i < n
    · have hli : (i : Int) < (n : Int) := by omega
      obtain ⟨ga, go, rfl, hcell⟩ := HH.out.2 i hlt
      have hy := H15.out i
      obtain ⟨y, ey⟩ : ∃ y, ls.getD i 0 = y := ⟨_, rfl⟩
      have HY := Lib.hid ey
      rw [ey] at hcell hy
      clear ey
      by_cases hy0 : 0 < y
      · have hyi : 0 < (y : Int) := by omega
        go_wp2_with fail
        go_loopw [9, 10] (fun vp vk wz => ∃ k : Nat, vk = .int .i64 (k : Int) ∧ k ≤ y ∧ vp = .int .i64 ((32768 / 2 ^ k : Nat) : Int) ∧ wz = wr) (fun _ vk _ => y - (intOf vk).toNat)
        case atStart => exact ⟨0, rfl, Nat.zero_le _, rfl, rfl⟩
        case round =>
          obtain ⟨k, rfl, hk, rfl, rfl⟩ := hrel
          have HP2 : Hid (32768 / 2 ^ (k + 1) = 32768 / 2 ^ k / 2) := by show _ = _; rw [Nat.pow_succ, Nat.div_div_eq_div_mul]
          have hp2 : 32768 / 2 ^ k ≤ 32768 := Nat.div_le_self _ _
          obtain ⟨o, ho2⟩ : ∃ o, 32768 / 2 ^ k = o := ⟨_, rfl⟩
          have HO := Lib.hid ho2
          rw [ho2] at hp2 HP2
          rw [ho2]
          clear ho2
          by_cases hky : k < y
          · have hki : (k : Int) < (y : Int) := by omega
            go_wp2_with fail
            go_roundw
            case rel => exact ⟨k + 1, by go_num, by omega, by rw [HP2.out]; go_num, trivial⟩
            case measure => simp [intOf]; go_num
          · have hki : ¬ (k : Int) < (y : Int) := by omega
            have HKY : Hid (k = y) := by show _ = _; omega
            go_wp2_with fail
            go_roundw
            case rel => exact ⟨i + 1, ⟨su + o, ma + 1, y⟩, by go_num, by omega, by rw [gdTo, HST.out, HY.out, if_pos hy0, ← HO.out, HKY.out], by go_num, by go_num, rfl, by show su + o ≤ _; omega, by show ma + 1 ≤ _; omega, hy, trivial⟩
            case measure => simp [intOf]; go_num
      · have hyi : ¬ 0 < (y : Int) := by omega
        go_wp2_with fail
        go_roundw
        case rel => exact ⟨i + 1, ⟨su, ma, fi⟩, by go_num, by omega, by rw [gdTo, HY.out, if_neg hy0, HST.out], rfl, rfl, rfl, by show su ≤ _; omega, by show ma ≤ _; omega, h3, trivial⟩
        case measure => simp [intOf]; go_num
    · have hli : ¬ (i : Int) < (n : Int) := by omega
      have HRES : Hid (goodR ls none = (su == 32768 || (ma == 1 && fi == 1) || (none && ma == 0))) := by
        show _ = _
        unfold goodR
        rw [HLN.out, show n = i by omega, HST.out]
      by_cases c1 : su = 32768
      · have k1 : (su : Int) = 32768 := by omega
        go_wp2_with fail
        go_ret
        rw [HRES.out, c1]
        exact ⟨rfl, rfl⟩
      · have k1 : ¬ (su : Int) = 32768 := by omega
        by_cases c2 : ma = 1
        · have k2 : (ma : Int) = 1 := by omega
          by_cases c3 : fi = 1
          · have k3 : (fi : Int) = 1 := by omega
            go_wp2_with fail
            go_ret
            rw [HRES.out, c2, c3]
            simp
          · have k3 : ¬ (fi : Int) = 1 := by omega
            cases none
            all_goals
              go_wp2_with fail
              go_ret
              rw [HRES.out, c2]
              simp [c1, c3] <;> (rw [Bool.eq_iff_iff]; simp; omega)
        · have k2 : ¬ (ma : Int) = 1 := by omega
          cases none
          · go_wp2_with fail
            go_ret
            rw [HRES.out]
            simp [c1, c2] <;> (rw [Bool.eq_iff_iff]; simp; omega)
          · by_cases c4 : ma = 0
            · have k4 : (ma : Int) = 0 := by omega
              go_wp2_with fail
              go_ret
              rw [HRES.out]
              simp [c4] <;> (rw [Bool.eq_iff_iff]; simp; omega)
            · have k4 : ¬ (ma : Int) = 0 := by omega
              go_wp2_with fail
              go_ret
              rw [HRES.out]
              simp [c1, c2, c4] <;> (rw [Bool.eq_iff_iff]; simp; omega)
end Go.Proofs.YtglgchjkonjpiaaGreatDoor
/-! The document's codes are the program's: the same signs, the same good lengths. -/
namespace Go.Proofs.YtglgchjkonjpiaaGreatDoor
open Go.RowKit Plain
set_option linter.unusedVariables false
set_option linter.unusedSimpArgs false
/-- The first code of so many bits. -/
def firstOf (ls : List Nat) : Nat → Nat
  | 0 => 0
  | n + 1 => 2 * (firstOf ls n + (cntOf ls).getD n 0)
theorem cnt_zero (ls : List Nat) : (cntOf ls).getD 0 0 = 0 := by rw [cntOf_get _ _ (by omega)]; rfl
theorem cnt_pos (ls : List Nat) (n : Nat) (h1 : 1 ≤ n) (h2 : n < 16) : (cntOf ls).getD n 0 = ls.count n := by rw [cntOf_get _ _ h2, if_neg (by omega)]
theorem firstOf_one (ls : List Nat) : firstOf ls 1 = 0 := by simp only [firstOf, cnt_zero]
def Roomy (ls : List Nat) : Prop := ∀ n, n ≤ 15 → firstOf ls n + (cntOf ls).getD n 0 ≤ 2 ^ n
/-! ### What the document's codes are -/
structure CI (ls : List Nat) (K i : Nat) (st : CSt) : Prop where
  last : if (ls.take i).count K = 0 then (st.n0 < K ∧ firstOf ls K = if st.n0 = 0 then 0 else (st.v + 1) * 2 ^ (K - st.n0)) else (st.n0 = K ∧ st.v + 1 = firstOf ls K + (ls.take i).count K)
  out : ∀ t, t < ls.length → st.out.getD t (0, 0) = if 1 ≤ ls.getD t 0 ∧ (ls.getD t 0 < K ∨ (ls.getD t 0 = K ∧ t < i)) then (ls.getD t 0, firstOf ls (ls.getD t 0) + (ls.take t).count (ls.getD t 0)) else (0, 0)
  len : st.out.length = ls.length
theorem getD_set_pair (l : List (Nat × Nat)) (i j : Nat) (v : Nat × Nat) : (l.set i v).getD j (0, 0) = if i = j ∧ i < l.length then v else l.getD j (0, 0) := by
  rw [List.getD_eq_getElem?_getD, List.getElem?_set, List.getD_eq_getElem?_getD]
  by_cases h : i = j
  · subst h
    by_cases h2 : i < l.length
    · simp [h2]
    · simp [h2]
  · simp [h]
theorem ci_step {ls : List Nat} (hr : Roomy ls) {K i : Nat} {st : CSt} (h1 : 1 ≤ K) (h2 : K ≤ 15) (hi : i < ls.length) (h : CI ls K i st) : CI ls K (i + 1) (stepC ls K st i) := by
  have htk := take_snoc ls i hi
  unfold stepC
  by_cases hx : ls.getD i 0 = K
  · rw [if_pos hx]
    have hc : (ls.take (i + 1)).count K = (ls.take i).count K + 1 := by rw [htk, List.count_append, hx, List.count_singleton_self]
    have hlt : (ls.take i).count K < ls.count K := by rw [← hx]; exact count_lt ls i hi
    have hroom := hr K h2
    rw [cnt_pos ls K h1 (by omega)] at hroom
    have hn : nextC K st = firstOf ls K + (ls.take i).count K := by
      have hl := h.last
      unfold nextC
      by_cases hz : (ls.take i).count K = 0
      · rw [if_pos hz] at hl
        obtain ⟨hk, hf⟩ := hl
        rw [hz, Nat.add_zero, hf]
        by_cases h0 : st.n0 = 0
        · rw [if_pos h0, if_pos h0, Nat.zero_mul]
        · rw [if_neg h0, if_neg h0]
          rw [if_neg h0] at hf
          have hv : st.v + 1 < 2 ^ st.n0 := by
            rcases Nat.lt_or_ge (st.v + 1) (2 ^ st.n0) with hh | hh
            · exact hh
            · have h3 := Nat.mul_le_mul_right (2 ^ (K - st.n0)) hh
              rw [← Nat.pow_add, show st.n0 + (K - st.n0) = K by omega] at h3
              omega
          unfold nextN
          rw [if_pos hv]
      · rw [if_neg hz] at hl
        obtain ⟨hk, hf⟩ := hl
        rw [hk, if_neg (by omega), Nat.sub_self, Nat.pow_zero, Nat.mul_one]
        unfold nextN
        rw [if_pos (by omega)]; exact hf
    refine ⟨?_, fun t ht => ?_, by rw [List.length_set]; exact h.len⟩
    · rw [if_neg (by omega)]
      exact ⟨rfl, by show nextC K st + 1 = _; omega⟩
    · show (st.out.set i (K, nextC K st)).getD t (0, 0) = _
      rw [getD_set_pair, h.len]
      by_cases hit : i = t
      · subst hit
        rw [if_pos ⟨rfl, hi⟩, hx, if_pos ⟨h1, .inr ⟨rfl, by omega⟩⟩, hn]
      · rw [if_neg (by omega), h.out t ht]
        by_cases hg : 1 ≤ ls.getD t 0 ∧ (ls.getD t 0 < K ∨ (ls.getD t 0 = K ∧ t < i))
        · rw [if_pos hg, if_pos ⟨hg.1, hg.2.imp id (fun h => ⟨h.1, by omega⟩)⟩]
        · rw [if_neg hg, if_neg (fun h => hg ⟨h.1, h.2.imp id (fun h => ⟨h.1, by omega⟩)⟩)]
  · rw [if_neg hx]
    have hc : (ls.take (i + 1)).count K = (ls.take i).count K := by
      rw [htk, List.count_append, List.count_singleton, if_neg (by simpa using hx)]; rfl
    refine ⟨by rw [hc]; exact h.last, fun t ht => ?_, h.len⟩
    rw [h.out t ht]
    by_cases hg : 1 ≤ ls.getD t 0 ∧ (ls.getD t 0 < K ∨ (ls.getD t 0 = K ∧ t < i))
    · rw [if_pos hg, if_pos ⟨hg.1, hg.2.imp id (fun h => ⟨h.1, by omega⟩)⟩]
    · rw [if_neg hg, if_neg (fun h => hg ⟨h.1, h.2.imp id (fun h => ⟨h.1, by
        rcases Nat.lt_or_ge t i with h3 | h3
        · exact h3
        · obtain rfl : t = i := by omega
          exact absurd h.1 hx⟩)⟩)]
theorem ci_round {ls : List Nat} (hr : Roomy ls) {K : Nat} {st : CSt} (h1 : 1 ≤ K) (h2 : K ≤ 15) (h : CI ls K 0 st) : ∀ i, i ≤ ls.length → CI ls K i (roundC ls K i st)
  | 0, _ => h
  | i + 1, hi => ci_step hr h1 h2 (by omega) (ci_round hr h1 h2 h i (by omega))
theorem ci_up {ls : List Nat} {K : Nat} {st : CSt} (h1 : 1 ≤ K) (h2 : K ≤ 15) (h : CI ls K ls.length st) : CI ls (K + 1) 0 st := by
  refine ⟨?_, fun t ht => ?_, h.len⟩
  · have hl := h.last
    rw [List.take_length] at hl
    rw [if_pos (by simp)]
    have hf : firstOf ls (K + 1) = 2 * (firstOf ls K + ls.count K) := by
      show 2 * (firstOf ls K + (cntOf ls).getD K 0) = _
      rw [cnt_pos ls K h1 (by omega)]
    by_cases hz : ls.count K = 0
    · rw [if_pos hz] at hl
      refine ⟨by omega, ?_⟩
      rw [hf, hz, Nat.add_zero, hl.2]
      by_cases h0 : st.n0 = 0
      · rw [if_pos h0, if_pos h0]
      · rw [if_neg h0, if_neg h0, show K + 1 - st.n0 = (K - st.n0) + 1 by omega, Nat.pow_succ, ← Nat.mul_assoc, Nat.mul_comm 2, Nat.mul_assoc, Nat.mul_comm 2]
    · rw [if_neg hz] at hl
      refine ⟨by omega, ?_⟩
      rw [hf, ← hl.2, if_neg (by omega), hl.1, show K + 1 - K = 1 by omega, Nat.pow_one, Nat.mul_comm]
  · rw [h.out t ht]
    by_cases hg : 1 ≤ ls.getD t 0 ∧ (ls.getD t 0 < K ∨ (ls.getD t 0 = K ∧ t < ls.length))
    · rw [if_pos hg, if_pos ⟨hg.1, .inl (by have := hg.2; omega)⟩]
    · rw [if_neg hg, if_neg (fun h => hg ⟨h.1, by have := h.2; omega⟩)]
theorem ci_all {ls : List Nat} (hr : Roomy ls) : ∀ k, k ≤ 15 → CI ls (k + 1) 0 (codesTo ls k)
  | 0, _ => by
    refine ⟨?_, fun t ht => ?_, by simp [codesTo]⟩
    · rw [if_pos (by simp)]
      exact ⟨by simp [codesTo], by simp [codesTo, firstOf_one]⟩
    · rw [if_neg (by omega), codesTo, List.getD_eq_getElem?_getD, List.getElem?_replicate]
      split <;> rfl
  | k + 1, h => ci_up (by omega) h (ci_round hr (by omega) h (ci_all hr k (by omega)) _ (Nat.le_refl _))
theorem codes_get {ls : List Nat} (hr : Roomy ls) (h15 : ∀ i, ls.getD i 0 ≤ 15) (t : Nat) (ht : t < ls.length) :
    (codesT ls).getD t (0, 0) = if 1 ≤ ls.getD t 0 then (ls.getD t 0, firstOf ls (ls.getD t 0) + (ls.take t).count (ls.getD t 0)) else (0, 0) := by
  have h := (ci_all hr 15 (Nat.le_refl _)).out t ht
  have hx := h15 t
  unfold codesT
  rw [h]
  by_cases h1 : 1 ≤ ls.getD t 0
  · rw [if_pos h1, if_pos ⟨h1, .inl (by omega)⟩]
  · rw [if_neg h1, if_neg (fun h => h1 h.1)]
/-! ### Which sign has a code -/
theorem idx_get (ls : List Nat) (n : Nat) : ∀ k, k ≤ ls.length → ∀ j, j < (ls.take k).count n → (idxOf (ls.take k) n).getD j 0 < k ∧ ls.getD ((idxOf (ls.take k) n).getD j 0) 0 = n ∧ (ls.take ((idxOf (ls.take k) n).getD j 0)).count n = j
  | 0, _, j, h => by simp at h
  | k + 1, hk, j, h => by
    have ih := idx_get ls n k (by omega)
    have htk := take_snoc ls k (by omega)
    have hlen := idx_len_take ls n k (by omega)
    by_cases hx : ls.getD k 0 = n
    · have hc : (ls.take (k + 1)).count n = (ls.take k).count n + 1 := by rw [htk, List.count_append, hx, List.count_singleton_self]
      have hidx : idxOf (ls.take (k + 1)) n = idxOf (ls.take k) n ++ [k] := by
        rw [htk, idx_snoc, if_pos hx, List.length_take, Nat.min_eq_left (by omega)]
      by_cases hj : j < (ls.take k).count n
      · have := ih j hj
        have e : (idxOf (ls.take (k + 1)) n).getD j 0 = (idxOf (ls.take k) n).getD j 0 := by
          rw [hidx, List.getD_eq_getElem?_getD, List.getElem?_append_left (by omega), ← List.getD_eq_getElem?_getD]
        rw [e]
        exact ⟨by omega, this.2⟩
      · have hj2 : j = (ls.take k).count n := by omega
        have e : (idxOf (ls.take (k + 1)) n).getD j 0 = k := by
          rw [hidx, List.getD_eq_getElem?_getD, List.getElem?_append_right (by omega), hlen, hj2, Nat.sub_self]; rfl
        rw [e]
        exact ⟨by omega, hx, hj2.symm⟩
    · have hc : (ls.take (k + 1)).count n = (ls.take k).count n := by
        rw [htk, List.count_append, List.count_singleton, if_neg (by simpa using hx)]; rfl
      have hidx : idxOf (ls.take (k + 1)) n = idxOf (ls.take k) n := by rw [htk, idx_snoc, if_neg hx]
      rw [hidx]
      have := ih j (by omega)
      exact ⟨by omega, this.2⟩
theorem count_mono (ls : List Nat) (n : Nat) {i j : Nat} (h : j < i) (hi : i ≤ ls.length) (hx : ls.getD j 0 = n) : (ls.take j).count n < (ls.take i).count n := by
  have h1 : (ls.take (j + 1)).count n = (ls.take j).count n + 1 := by rw [take_snoc ls j (by omega), List.count_append, hx, List.count_singleton_self]
  have h2 : ((ls.take i).take (j + 1)).count n ≤ (ls.take i).count n := count_take_le _ _ _
  rw [List.take_take, Nat.min_eq_left (by omega)] at h2
  omega
theorem find_code {ls : List Nat} (hr : Roomy ls) (h15 : ∀ i, ls.getD i 0 ≤ 15) {l V : Nat} (h1 : 1 ≤ l) (h2 : l ≤ 15) (hV : firstOf ls l ≤ V) (hV2 : V < firstOf ls l + (cntOf ls).getD l 0) :
    ∃ i, i < ls.length ∧ (sgOf ls).getD (startOf ls l + V - firstOf ls l) 0 = i ∧ (codesT ls).getD i (0, 0) = (l, V) ∧ ∀ j, j < i → (codesT ls).getD j (0, 0) ≠ (l, V) := by
  rw [cnt_pos ls l h1 (by omega)] at hV2
  have hg := idx_get ls l ls.length (Nat.le_refl _) (V - firstOf ls l) (by rw [List.take_length]; omega)
  rw [List.take_length] at hg
  refine ⟨_, hg.1, ?_, ?_, ?_⟩
  · rw [show startOf ls l + V - firstOf ls l = startOf ls l + (V - firstOf ls l) by omega]
    exact sg_get ls l _ h1 (by omega) (by omega)
  · rw [codes_get hr h15 _ hg.1, hg.2.1, if_pos h1, hg.2.2]
    congr 1
    omega
  · intro j hj e
    rw [codes_get hr h15 j (by omega)] at e
    by_cases hz : 1 ≤ ls.getD j 0
    · rw [if_pos hz] at e
      injection e with e1 e2
      have := count_mono ls l hj (by omega) e1
      rw [e1] at e2
      omega
    · rw [if_neg hz] at e
      injection e with e1 e2
      omega
theorem find_none {ls : List Nat} (hr : Roomy ls) (h15 : ∀ i, ls.getD i 0 ≤ 15) {l V : Nat} (h1 : 1 ≤ l) (h2 : l ≤ 15) (hV2 : firstOf ls l + (cntOf ls).getD l 0 ≤ V) :
    ∀ j, j < (codesT ls).length → (codesT ls).getD j (0, 0) ≠ (l, V) := by
  rw [cnt_pos ls l h1 (by omega)] at hV2
  intro j hj e
  rw [codesT_len] at hj
  rw [codes_get hr h15 j hj] at e
  by_cases hz : 1 ≤ ls.getD j 0
  · rw [if_pos hz] at e
    injection e with e1 e2
    have := count_lt ls j hj
    rw [e1] at this e2
    omega
  · rw [if_neg hz] at e
    injection e with e1 e2
    omega
theorem find_longer {ls : List Nat} (hr : Roomy ls) (h15 : ∀ i, ls.getD i 0 ≤ 15) (hc : firstOf ls 15 + (cntOf ls).getD 15 0 = 2 ^ 15) : ∀ (d l V : Nat), l + d = 15 → firstOf ls l + (cntOf ls).getD l 0 ≤ V → V < 2 ^ l →
    ∃ k i, l < k ∧ k ≤ 15 ∧ i < ls.length ∧ ls.getD i 0 = k ∧ (codesT ls).getD i (0, 0) = (k, V * 2 ^ (k - l))
  | 0, l, V, hl, h1, h2 => by
    obtain rfl : l = 15 := by omega
    omega
  | d + 1, l, V, hl, h1, h2 => by
    have hf : firstOf ls (l + 1) ≤ 2 * V := by
      show 2 * (firstOf ls l + (cntOf ls).getD l 0) ≤ _
      omega
    have hp : 2 * V < 2 ^ (l + 1) := by rw [Nat.pow_succ]; omega
    by_cases hlt : 2 * V < firstOf ls (l + 1) + (cntOf ls).getD (l + 1) 0
    · obtain ⟨i, hi, -, he, -⟩ := find_code hr h15 (by omega) (by omega) hf hlt
      refine ⟨l + 1, i, by omega, by omega, hi, ?_, ?_⟩
      · rw [codes_get hr h15 i hi] at he
        by_cases hz : 1 ≤ ls.getD i 0
        · rw [if_pos hz] at he; injection he
        · rw [if_neg hz] at he; injection he with e1 e2; omega
      · rw [he, show l + 1 - l = 1 by omega, Nat.pow_one, Nat.mul_comm]
    · obtain ⟨k, i, h3, h4, h5, h6, h7⟩ := find_longer hr h15 hc d (l + 1) (2 * V) (by omega) (by omega) hp
      refine ⟨k, i, by omega, h4, h5, h6, ?_⟩
      rw [h7, show k - l = (k - (l + 1)) + 1 by omega, Nat.pow_succ]
      congr 1
      rw [Nat.mul_comm 2 V, Nat.mul_assoc, Nat.mul_comm 2]
theorem any_longer {cs : List (Nat × Nat)} {l V k i : Nat} (hi : i < cs.length) (hk : l < k) (h : cs.getD i (0, 0) = (k, V * 2 ^ (k - l))) : cs.any (longer l V) = true := by
  rw [List.any_eq_true]
  refine ⟨cs[i], List.getElem_mem hi, ?_⟩
  rw [List.getD_eq_getElem?_getD, List.getElem?_eq_getElem hi] at h
  have h' : cs[i] = (k, V * 2 ^ (k - l)) := h
  rw [h']
  unfold longer
  simp only [hk, decide_true, Bool.true_and, decide_eq_true_eq]
  exact Nat.mul_div_cancel _ (Nat.two_pow_pos _)
theorem max_ge : ∀ (l : List Nat) (a i : Nat), a ≤ l.foldl max a ∧ l.getD i 0 ≤ l.foldl max a
  | [], a, i => ⟨Nat.le_refl _, by simp⟩
  | x :: t, a, i => by
    have h0 := max_ge t (max a x) i
    refine ⟨by show a ≤ t.foldl max (max a x); omega, ?_⟩
    cases i with
    | zero => show x ≤ t.foldl max (max a x); omega
    | succ i =>
      have := (max_ge t (max a x) i).2
      exact this
theorem sign_full {ls : List Nat} (hr : Roomy ls) (h15 : ∀ i, ls.getD i 0 ≤ 15) (hc : firstOf ls 15 + (cntOf ls).getD 15 0 = 2 ^ 15) (N L : Nat) :
    ∀ (g l f p x : Nat), l + g = ls.foldl max 0 → l + f = 16 → firstOf ls (l + 1) ≤ 2 * x → x < 2 ^ l → signRGo N L (codesT ls) f l p x = signGo N L (codeOfN ls) g (l + 1) p (2 * x) (firstOf ls (l + 1)) (startOf ls (l + 1))
  | 0, l, f, p, x, hg, hf, h1, h2 => by
    have hm15 : ls.foldl max 0 ≤ 15 := foldl_max_le ls 0 15 (by omega) (fun y hy => by
      obtain ⟨i, hi, rfl⟩ := List.mem_iff_getElem.1 hy
      have := h15 i
      rw [List.getD_eq_getElem?_getD, List.getElem?_eq_getElem hi] at this
      exact this)
    have h3 : firstOf ls l + (cntOf ls).getD l 0 ≤ x := by
      have : 2 * (firstOf ls l + (cntOf ls).getD l 0) ≤ 2 * x := h1
      omega
    obtain ⟨k, i, h4, -, -, h5, -⟩ := find_longer hr h15 hc (15 - l) l x (by omega) h3 h2
    have := (max_ge ls 0 i).2
    omega
  | g + 1, l, f, p, x, hg, hf, h1, h2 => by
    have hm15 : ls.foldl max 0 ≤ 15 := foldl_max_le ls 0 15 (by omega) (fun y hy => by
      obtain ⟨i, hi, rfl⟩ := List.mem_iff_getElem.1 hy
      have := h15 i
      rw [List.getD_eq_getElem?_getD, List.getElem?_eq_getElem hi] at this
      exact this)
    obtain ⟨f, rfl⟩ : ∃ f', f = f' + 1 := ⟨f - 1, by omega⟩
    rw [signGo]
    cases hn : num N L p 1 with
    | error e => rw [goR_err hn]
    | ok v =>
      obtain ⟨b, q⟩ := v
      have hb := (num_ok hn).1
      have hV : 2 * x + b < 2 ^ (l + 1) := by rw [Nat.pow_succ]; omega
      simp only []
      show _ = if 2 * x + b < firstOf ls (l + 1) + (cntOf ls).getD (l + 1) 0 then _ else _
      by_cases hlt : 2 * x + b < firstOf ls (l + 1) + (cntOf ls).getD (l + 1) 0
      · rw [if_pos hlt]
        obtain ⟨i, hi, hs, he, hj⟩ := find_code hr h15 (by omega) (by omega) (by omega) hlt
        rw [goR_found hn (by rw [codesT_len]; exact hi) he hj]
        show _ = Except.ok ((sgOf ls).getD (startOf ls (l + 1) + (2 * x + b) - firstOf ls (l + 1)) 0, q)
        rw [hs]
      · rw [if_neg hlt]
        have hno := find_none hr h15 (l := l + 1) (V := 2 * x + b) (by omega) (by omega) (by omega)
        obtain ⟨k, i, h4, -, h5, -, h6⟩ := find_longer hr h15 hc (15 - (l + 1)) (l + 1) (2 * x + b) (by omega) (by omega) hV
        rw [goR_none hn hno, if_pos (any_longer (by rw [codesT_len]; exact h5) h4 h6)]
        rw [sign_full hr h15 hc N L g (l + 1) f q (2 * x + b) (by omega) (by omega) (by
          show 2 * (firstOf ls (l + 1) + (cntOf ls).getD (l + 1) 0) ≤ _
          omega) hV]
        rw [startOf_succ ls (l + 1) (by omega)]
        rfl
end Go.Proofs.YtglgchjkonjpiaaGreatDoor
/-! Good lengths, the document's way and the program's; the codes that are given. -/
namespace Go.Proofs.YtglgchjkonjpiaaGreatDoor
open Go.RowKit Plain
set_option linter.unusedVariables false
set_option linter.unusedSimpArgs false
/-! ### Sums over lengths, one by one -/
theorem cnt_snoc (l : List Nat) (x n : Nat) (hn : n < 16) : (cntOf (l ++ [x])).getD n 0 = (cntOf l).getD n 0 + if 1 ≤ x ∧ x = n then 1 else 0 := by
  rw [cntOf_get _ _ hn, cntOf_get _ _ hn]
  by_cases h0 : n = 0
  · rw [if_pos h0, if_pos h0, if_neg (by omega)]
  · rw [if_neg h0, if_neg h0, List.count_append, List.count_singleton]
    by_cases hx : x = n
    · rw [if_pos (by simpa using hx), if_pos ⟨by omega, hx⟩]
    · rw [if_neg (by simpa using hx), if_neg (fun h => hx h.2)]
theorem first_snoc (l : List Nat) (x : Nat) : ∀ n, n ≤ 16 → firstOf (l ++ [x]) n = firstOf l n + if 1 ≤ x ∧ x < n then 2 ^ (n - x) else 0
  | 0, _ => by rw [if_neg (by omega)]; rfl
  | n + 1, h => by
    have ih := first_snoc l x n (by omega)
    show 2 * (firstOf (l ++ [x]) n + (cntOf (l ++ [x])).getD n 0) = 2 * (firstOf l n + (cntOf l).getD n 0) + _
    rw [ih, cnt_snoc l x n (by omega)]
    by_cases h1 : 1 ≤ x ∧ x < n
    · rw [if_pos h1, if_neg (by omega), if_pos ⟨h1.1, by omega⟩, show n + 1 - x = (n - x) + 1 by omega, Nat.pow_succ]
      omega
    · rw [if_neg h1]
      by_cases h2 : 1 ≤ x ∧ x = n
      · rw [if_pos h2, if_pos ⟨h2.1, by omega⟩, show n + 1 - x = 1 by omega]
        omega
      · rw [if_neg h2, if_neg (by omega)]
        omega
theorem first_nil : ∀ n, n ≤ 16 → firstOf [] n = 0
  | 0, _ => rfl
  | n + 1, h => by
    show 2 * (firstOf [] n + (cntOf []).getD n 0) = 0
    rw [first_nil n (by omega), cntOf_get _ _ (by omega)]
    split <;> simp
theorem start_snoc (l : List Nat) (x : Nat) : ∀ n, n ≤ 16 → startOf (l ++ [x]) n = startOf l n + if 1 ≤ x ∧ x < n then 1 else 0
  | 0, _ => by rw [if_neg (by omega)]; simp [startOf]
  | n + 1, h => by
    rw [startOf_succ _ _ (by omega), startOf_succ _ _ (by omega), start_snoc l x n (by omega), cnt_snoc l x n (by omega)]
    by_cases h1 : 1 ≤ x ∧ x < n
    · rw [if_pos h1, if_neg (by omega), if_pos ⟨h1.1, by omega⟩]; omega
    · rw [if_neg h1]
      by_cases h2 : 1 ≤ x ∧ x = n
      · rw [if_pos h2, if_pos ⟨h2.1, by omega⟩]; omega
      · rw [if_neg h2, if_neg (by omega)]
        omega
theorem start_nil : ∀ n, n ≤ 16 → startOf [] n = 0
  | 0, _ => by simp [startOf]
  | n + 1, h => by
    rw [startOf_succ _ _ (by omega), start_nil n (by omega), cntOf_get _ _ (by omega)]
    split <;> simp
theorem pow_part : ∀ x, 1 ≤ x → x ≤ 15 → 2 * (32768 / 2 ^ x) = 2 ^ (16 - x) := by
  intro x h1 h2
  have : ∀ x, x < 16 → 1 ≤ x → 2 * (32768 / 2 ^ x) = 2 ^ (16 - x) := by decide +kernel
  exact this x (by omega) h1
/-- What the document's walk over lengths comes to. -/
structure GdI (ls : List Nat) (i : Nat) (st : GSt) : Prop where
  sum : 2 * st.sum = firstOf (ls.take i) 16
  many : st.many = startOf (ls.take i) 16
  none : st.many = 0 → st.sum = 0 ∧ (ls.take i).foldl max 0 = 0 ∧ ∀ t, t < i → ls.getD t 0 = 0
  one : st.many = 1 → st.first = (ls.take i).foldl max 0 ∧ st.sum = 32768 / 2 ^ st.first ∧ 1 ≤ st.first
theorem gdI {ls : List Nat} (h15 : ∀ i, ls.getD i 0 ≤ 15) : ∀ i, i ≤ ls.length → GdI ls i (gdTo ls i)
  | 0, _ => ⟨by rw [List.take_zero, first_nil 16 (by omega)]; rfl, by rw [List.take_zero, start_nil 16 (by omega)]; rfl, fun _ => ⟨rfl, rfl, fun t ht => by omega⟩, fun h => by cases h⟩
  | i + 1, hi => by
    have ih := gdI h15 i (by omega)
    have hx := h15 i
    have htk := take_snoc ls i (by omega)
    rw [gdTo]
    by_cases h0 : 0 < ls.getD i 0
    · rw [if_pos h0]
      have hp := pow_part _ h0 hx
      refine ⟨?_, ?_, fun h => ?_, fun h => ?_⟩
      · rw [htk, first_snoc _ _ _ (Nat.le_refl _), if_pos ⟨h0, by omega⟩, ← ih.sum]
        show 2 * ((gdTo ls i).sum + 32768 / 2 ^ ls.getD i 0) = _
        omega
      · rw [htk, start_snoc _ _ _ (Nat.le_refl _), if_pos ⟨h0, by omega⟩, ← ih.many]
      · have : (gdTo ls i).many + 1 = 0 := h
        omega
      · have hm : (gdTo ls i).many = 0 := by
          have : (gdTo ls i).many + 1 = 1 := h
          omega
        have hn := ih.none hm
        rw [htk, foldl_max_snoc, hn.2.1]
        refine ⟨by show ls.getD i 0 = max 0 (ls.getD i 0); omega, ?_, h0⟩
        show (gdTo ls i).sum + 32768 / 2 ^ ls.getD i 0 = 32768 / 2 ^ ls.getD i 0
        rw [hn.1, Nat.zero_add]
    · rw [if_neg h0]
      have hz : ls.getD i 0 = 0 := by omega
      refine ⟨?_, ?_, fun h => ?_, fun h => ?_⟩
      · rw [htk, first_snoc _ _ _ (Nat.le_refl _), if_neg (by omega), ← ih.sum]; rfl
      · rw [htk, start_snoc _ _ _ (Nat.le_refl _), if_neg (by omega), ← ih.many]; rfl
      · have hn := ih.none h
        refine ⟨hn.1, by rw [htk, foldl_max_snoc, hn.2.1, hz]; rfl, fun t ht => ?_⟩
        rcases Nat.lt_or_ge t i with h1 | h1
        · exact hn.2.2 t h1
        · rw [show t = i by omega]; exact hz
      · have hn := ih.one h
        exact ⟨by rw [htk, foldl_max_snoc, hz, ← hn.1]; omega, hn.2⟩
/-! ### Room -/
theorem first_up (ls : List Nat) : ∀ (d n : Nat), n + d = 16 → firstOf ls n * 2 ^ d ≤ firstOf ls 16
  | 0, n, h => by obtain rfl : n = 16 := by omega
                  rw [Nat.pow_zero, Nat.mul_one]; exact Nat.le_refl _
  | d + 1, n, h => by
    have ih := first_up ls d (n + 1) (by omega)
    have h1 : 2 * firstOf ls n ≤ firstOf ls (n + 1) := by
      show _ ≤ 2 * (firstOf ls n + (cntOf ls).getD n 0)
      omega
    have h2 := Nat.mul_le_mul_right (2 ^ d) h1
    rw [Nat.pow_succ, Nat.mul_comm (2 ^ d), ← Nat.mul_assoc, Nat.mul_comm (firstOf ls n)]
    omega
theorem roomy_of {ls : List Nat} (h : firstOf ls 16 ≤ 65536) : Roomy ls := fun n hn => by
  have h1 := first_up ls (16 - (n + 1)) (n + 1) (by omega)
  have h2 : firstOf ls (n + 1) * 2 ^ (16 - (n + 1)) ≤ 2 ^ (n + 1) * 2 ^ (16 - (n + 1)) := by
    rw [← Nat.pow_add, show n + 1 + (16 - (n + 1)) = 16 by omega]
    exact Nat.le_trans h1 h
  have h3 := Nat.le_of_mul_le_mul_right h2 (Nat.two_pow_pos _)
  have h4 : 2 * (firstOf ls n + (cntOf ls).getD n 0) ≤ 2 ^ (n + 1) := h3
  rw [Nat.pow_succ] at h4
  omega
theorem room_go {ls : List Nat} (hr : Roomy ls) : ∀ (f n : Nat) (r : Int), n + f = 16 → 2 * r = ((2 ^ n : Nat) : Int) - (firstOf ls n : Int) → 2 * roomGo (cntOf ls) f n r = 65536 - (firstOf ls 16 : Int)
  | 0, n, r, h, hr2 => by
    obtain rfl : n = 16 := by omega
    rw [roomGo, hr2]; rfl
  | f + 1, n, r, h, hr2 => by
    have h1 := hr n (by omega)
    have h3 : (firstOf ls (n + 1) : Int) = 2 * ((firstOf ls n : Int) + ((cntOf ls).getD n 0 : Int)) := by
      show ((2 * (firstOf ls n + (cntOf ls).getD n 0) : Nat) : Int) = _
      omega
    have h2 : ((2 ^ (n + 1) : Nat) : Int) = 2 * ((2 ^ n : Nat) : Int) := by rw [Nat.pow_succ]; omega
    rw [roomGo, if_neg (by omega)]
    exact room_go hr f (n + 1) _ (by omega) (by rw [h2, h3]; omega)
theorem room_neg {ls : List Nat} : ∀ (f n : Nat) (r : Int), n + f = 16 → 2 * r = ((2 ^ n : Nat) : Int) - (firstOf ls n : Int) → 0 ≤ roomGo (cntOf ls) f n r → firstOf ls 16 ≤ 65536
  | 0, n, r, h, hr2, h0 => by
    obtain rfl : n = 16 := by omega
    rw [roomGo] at h0
    have : ((2 ^ 16 : Nat) : Int) = 65536 := rfl
    omega
  | f + 1, n, r, h, hr2, h0 => by
    have h3 : (firstOf ls (n + 1) : Int) = 2 * ((firstOf ls n : Int) + ((cntOf ls).getD n 0 : Int)) := by
      show ((2 * (firstOf ls n + (cntOf ls).getD n 0) : Nat) : Int) = _
      omega
    have h2 : ((2 ^ (n + 1) : Nat) : Int) = 2 * ((2 ^ n : Nat) : Int) := by rw [Nat.pow_succ]; omega
    rw [roomGo] at h0
    split at h0
    · omega
    · exact room_neg f (n + 1) _ (by omega) (by rw [h2, h3]; omega) h0
/-- The program's word on lengths. -/
theorem goodN_iff {ls : List Nat} : goodN (codeOfN ls) = true ↔ firstOf ls 16 ≤ 65536 ∧ (firstOf ls 16 = 65536 ∨ (startOf ls 16 = 1 ∧ ls.foldl max 0 = 1)) := by
  have h1 : 2 * (1 : Int) = ((2 ^ 1 : Nat) : Int) - (firstOf ls 1 : Int) := by rw [firstOf_one]; rfl
  have hn := room_neg (ls := ls) 15 1 1 (by omega) h1
  have hl : (sgOf ls).length = startOf ls 16 := sg_len ls
  unfold goodN
  simp only [codeOfN]
  rw [hl]
  constructor
  · intro h
    rw [Bool.and_eq_true] at h
    obtain ⟨h2, h3⟩ := h
    have h0 := of_decide_eq_true h2
    have hle := hn h0
    have hg := room_go (roomy_of hle) 15 1 1 (by omega) h1
    refine ⟨hle, ?_⟩
    rw [Bool.or_eq_true] at h3
    rcases h3 with h4 | h4
    · left
      have h5 : roomGo (cntOf ls) 15 1 1 = 0 := by simpa using h4
      omega
    · right
      simpa using h4
  · rintro ⟨hle, h⟩
    have hg := room_go (roomy_of hle) 15 1 1 (by omega) h1
    rw [Bool.and_eq_true]
    refine ⟨decide_eq_true (by omega), ?_⟩
    rw [Bool.or_eq_true]
    rcases h with h | h
    · left
      have : roomGo (cntOf ls) 15 1 1 = 0 := by omega
      simpa using this
    · right
      simpa using h
theorem good_same {ls : List Nat} (h15 : ∀ i, ls.getD i 0 ≤ 15) : goodR ls false = goodN (codeOfN ls) := by
  have hg := gdI h15 ls.length (Nat.le_refl _)
  rw [Bool.eq_iff_iff, goodN_iff]
  unfold goodR
  generalize gdTo ls ls.length = st at *
  obtain ⟨h1, h2, h3, h4⟩ := hg
  rw [List.take_length] at h1 h2 h4
  simp only [Bool.or_eq_true, beq_iff_eq, Bool.and_eq_true, Bool.false_and, Bool.false_eq_true, or_false]
  constructor
  · rintro (h | ⟨ha, hb⟩)
    · exact ⟨by omega, .inl (by omega)⟩
    · have := h4 ha
      rw [hb] at this
      refine ⟨?_, .inr ⟨by omega, by omega⟩⟩
      rw [← h1, this.2.1]; decide
  · rintro ⟨h5, h6 | ⟨h6, h7⟩⟩
    · left; omega
    · right
      have := h4 (by omega)
      exact ⟨by omega, by omega⟩
theorem good_none {ls : List Nat} (h15 : ∀ i, ls.getD i 0 ≤ 15) : goodR ls true = (goodN (codeOfN ls) || decide ((codeOfN ls).sg = [])) := by
  have hg := gdI h15 ls.length (Nat.le_refl _)
  rw [← good_same h15]
  have e : decide ((codeOfN ls).sg = []) = ((gdTo ls ls.length).many == 0) := by
    have h2 := hg.many
    rw [List.take_length, ← sg_len] at h2
    rw [h2]
    show decide (sgOf ls = []) = _
    cases sgOf ls <;> simp
  rw [e]
  unfold goodR
  simp
/-- No signs at all. -/
theorem none_zero {ls : List Nat} (h15 : ∀ i, ls.getD i 0 ≤ 15) (h : (codeOfN ls).sg = []) : ls.foldl max 0 = 0 ∧ ∀ t, t < ls.length → ls.getD t 0 = 0 := by
  have hg := gdI h15 ls.length (Nat.le_refl _)
  have h2 := hg.many
  rw [List.take_length, ← sg_len] at h2
  have h3 : (gdTo ls ls.length).many = 0 := by
    rw [h2, show sgOf ls = [] from h]; rfl
  have h4 := hg.none h3
  rw [List.take_length] at h4
  exact h4.2
/-! ### Signs -/
theorem sign_same {ls : List Nat} (h15 : ∀ i, ls.getD i 0 ≤ 15) (h : goodN (codeOfN ls) = true) (N L p : Nat) : signR N L (codesT ls) p = signN N L (codeOfN ls) p := by
  obtain ⟨hle, hc⟩ := goodN_iff.1 h
  have hr := roomy_of hle
  have hm15 : ls.foldl max 0 ≤ 15 := foldl_max_le ls 0 15 (by omega) (fun y hy => by
    obtain ⟨i, hi, rfl⟩ := List.mem_iff_getElem.1 hy
    have := h15 i
    rw [List.getD_eq_getElem?_getD, List.getElem?_eq_getElem hi] at this
    exact this)
  have hs1 : startOf ls 1 = 0 := by rw [startOf_succ ls 0 (by omega), cnt_zero]; simp [startOf]
  rcases hc with hc | ⟨ha, hb⟩
  · have hc' : firstOf ls 15 + (cntOf ls).getD 15 0 = 2 ^ 15 := by
      have : 2 * (firstOf ls 15 + (cntOf ls).getD 15 0) = 65536 := hc
      omega
    have := sign_full hr h15 hc' N L (ls.foldl max 0) 0 16 p 0 (by omega) (by omega) (by rw [firstOf_one]; omega) (by omega)
    rw [firstOf_one, hs1] at this
    exact this
  · unfold signR signN
    have hlg : (codeOfN ls).longest = 1 := hb
    rw [hlg, signGo]
    cases hn : num N L p 1 with
    | error e => rw [goR_err hn]
    | ok v =>
      obtain ⟨b, q⟩ := v
      have hb2 := (num_ok hn).1
      have hc1 : (cntOf ls).getD 1 0 = 1 := by
        have hg := gdI h15 ls.length (Nat.le_refl _)
        have h2 := hg.many
        have h4 := hg.one
        have h1 := hg.sum
        rw [List.take_length] at h1 h2 h4
        have h5 := h4 (by omega)
        have h6 : 2 * (gdTo ls ls.length).sum = 32768 := by
          rw [h5.2.1, h5.1, hb]
        have hf16 : firstOf ls 16 = 32768 := by omega
        have hge := first_up ls 14 2 (by omega)
        have hf2 : firstOf ls 2 = 2 * (cntOf ls).getD 1 0 := by
          show 2 * (firstOf ls 1 + _) = _
          rw [firstOf_one, Nat.zero_add]
        have hst : startOf ls 16 = startOf ls 1 + (cntOf ls).getD 1 0 + (startOf ls 16 - startOf ls 2) := by
          have := start_mono ls 2 16 (by omega) (by omega)
          have h7 : startOf ls 2 = startOf ls 1 + (cntOf ls).getD 1 0 := startOf_succ ls 1 (by omega)
          omega
        have hz : startOf ls 16 - startOf ls 2 = 0 := by
          rcases Nat.eq_zero_or_pos (startOf ls 16 - startOf ls 2) with h8 | h8
          · exact h8
          · exfalso
            have hlt : startOf ls 2 < startOf ls 16 := by omega
            obtain ⟨k, j, hk1, hk2, hj, hk4⟩ := place_of ls 16 (startOf ls 2) (by omega) hlt
            by_cases hk : k = 1
            · subst hk
              have h7 : startOf ls 2 = startOf ls 1 + (cntOf ls).getD 1 0 := startOf_succ ls 1 (by omega)
              rw [cnt_pos ls 1 (by omega) (by omega)] at h7
              omega
            · have hg2 := idx_get ls k ls.length (Nat.le_refl _) j (by rw [List.take_length]; exact hj)
              have := (max_ge ls 0 ((idxOf (ls.take ls.length) k).getD j 0)).2
              rw [hg2.2.1, hb] at this
              omega
        omega
      simp only []
      show _ = if 2 * 0 + b < 0 + (cntOf ls).getD 1 0 then _ else _
      rw [hc1]
      by_cases hb0 : b = 0
      · rw [if_pos (by omega)]
        obtain ⟨i, hi, hs, he, hj⟩ := find_code hr h15 (l := 1) (V := 2 * 0 + b) (by omega) (by omega) (by rw [firstOf_one]; omega) (by rw [firstOf_one, hc1]; omega)
        rw [goR_found (l := 0) hn (by rw [codesT_len]; exact hi) he hj]
        rw [hs1, firstOf_one] at hs
        subst hb0
        rw [← hs]
        rfl
      · rw [if_neg (by omega)]
        have hno := find_none hr h15 (l := 1) (V := 2 * 0 + b) (by omega) (by omega) (by rw [firstOf_one, hc1]; omega)
        rw [goR_none (l := 0) hn hno, if_neg]
        · rfl
        · intro hany
          rw [List.any_eq_true] at hany
          obtain ⟨c, hcm, hcl⟩ := hany
          obtain ⟨i, hi, rfl⟩ := List.mem_iff_getElem.1 hcm
          rw [codesT_len] at hi
          have hcg := codes_get hr h15 i hi
          rw [List.getD_eq_getElem?_getD, List.getElem?_eq_getElem (by rw [codesT_len]; exact hi)] at hcg
          have hcg' : (codesT ls)[i] = _ := hcg
          have hmx := (max_ge ls 0 i).2
          rw [hb] at hmx
          rw [hcg'] at hcl
          clear hcg hcg'
          generalize ls.getD i 0 = y at hmx hcl
          unfold longer at hcl
          split at hcl
          · simp at hcl; omega
          · simp at hcl
/-! ### The codes that are given -/
theorem rev_top : ∀ (n y : Nat), rev (n + 1) y = 2 * rev n (y % 2 ^ n) + y / 2 ^ n % 2
  | 0, y => by simp [rev]
  | n + 1, y => by
    have h1 : y / 2 % 2 ^ n = y % 2 ^ (n + 1) / 2 := by rw [Nat.pow_succ, Nat.mul_comm, Nat.mod_mul_right_div_self]
    have h2 : y % 2 ^ (n + 1) % 2 = y % 2 := Nat.mod_mod_of_dvd _ (Nat.dvd_of_pow_dvd (k := n + 1) (by omega) (Nat.dvd_refl _))
    have h3 : y / 2 / 2 ^ n = y / 2 ^ (n + 1) := by rw [Nat.div_div_eq_div_mul, Nat.pow_succ, Nat.mul_comm]
    rw [rev, rev_top n (y / 2), h1, h3]
    conv => rhs; rw [rev, h2]
    rw [Nat.pow_succ, Nat.mul_add]
    generalize 2 ^ n = z
    have : y % 2 * (z * 2) = 2 * (y % 2 * z) := by rw [Nat.mul_comm z 2, ← Nat.mul_assoc, Nat.mul_comm (y % 2) 2, Nat.mul_assoc]
    omega
theorem codeN_succ (N L p n : Nat) : codeN N L p (n + 1) = match codeN N L p n with
  | .error e => .error e
  | .ok (x, q) => match num N L q 1 with
    | .error e => .error e
    | .ok (b, r) => .ok (2 * x + b, r) := by
  unfold codeN num
  by_cases h1 : p + n ≤ L
  · rw [if_pos h1]
    simp only []
    by_cases h2 : p + (n + 1) ≤ L
    · rw [if_pos h2, if_pos (by omega)]
      simp only [Except.ok.injEq, Prod.mk.injEq]
      refine ⟨?_, by omega⟩
      rw [rev_top, bits_mod N p n (n + 1) (by omega), bits_div N p n (n + 1) (by omega), show n + 1 - n = 1 by omega]
      simp
    · rw [if_neg h2, if_neg (by omega)]
  · rw [if_neg h1, if_neg (by omega)]
theorem sign_skip (N L : Nat) (c : CodeS) (p : Nat) : ∀ k f, 1 ≤ f → (∀ j, 1 ≤ j → j ≤ k → c.cnt.getD j 0 = 0) → signGo N L c (f + k) 1 p 0 0 0 = (match codeN N L p k with
    | .error e => .error e
    | .ok (x, q) => signGo N L c f (k + 1) q (2 * x) 0 0)
  | 0, f, hf, _ => by
    unfold codeN num
    rw [Nat.add_zero]
    by_cases h : p + 0 ≤ L
    · rw [if_pos h]; simp [rev]
    · have h' : L < p := by omega
      rw [if_neg h]
      simp only []
      obtain ⟨f, rfl⟩ : ∃ f', f = f' + 1 := ⟨f - 1, by omega⟩
      rw [signGo]
      unfold num
      rw [if_neg (by omega)]
  | k + 1, f, hf, h => by
    have ih := sign_skip N L c p k (f + 1) (by omega) (fun j h1 h2 => h j h1 (by omega))
    rw [show f + (k + 1) = f + 1 + k by omega, ih, codeN_succ]
    cases codeN N L p k with
    | error e => rfl
    | ok v =>
      obtain ⟨x, q⟩ := v
      simp only []
      rw [signGo]
      cases num N L q 1 with
      | error e => rfl
      | ok v =>
        obtain ⟨b, r⟩ := v
        simp only []
        rw [h (k + 1) (by omega) (Nat.le_refl _), if_neg (by omega)]
theorem fixedLs_good : goodN (codeOfN fixedLs) = true := by decide +kernel
theorem fixedLs_len : fixedLs.length = 288 := by decide +kernel
theorem fixedLs_15 : ∀ i, fixedLs.getD i 0 ≤ 15 := fun i => by
  by_cases h : i < 288
  · have : ∀ i, i < 288 → fixedLs.getD i 0 ≤ 15 := by decide +kernel
    exact this i h
  · rw [List.getD_eq_getElem?_getD, List.getElem?_eq_none (by rw [fixedLs_len]; omega)]
    simp
def fives : List Nat := List.replicate 32 5
theorem fives_good : goodN (codeOfN fives) = true := by decide +kernel
theorem fives_15 : ∀ i, fives.getD i 0 ≤ 15 := fun i => by
  unfold fives
  rw [List.getD_eq_getElem?_getD, List.getElem?_replicate]
  split <;> simp
theorem fixed_cnt : (codeOfN fixedLs).cnt = [0, 0, 0, 0, 0, 0, 0, 24, 152, 112, 0, 0, 0, 0, 0, 0] := by decide +kernel
theorem fixed_long : (codeOfN fixedLs).longest = 9 := by decide +kernel
theorem fixed_sg1 : ∀ x, x < 24 → (codeOfN fixedLs).sg.getD x 0 = 256 + x := by decide +kernel
theorem fixed_sg2 : ∀ x, x < 144 → (codeOfN fixedLs).sg.getD (24 + x) 0 = x := by decide +kernel
theorem fixed_sg3 : ∀ x, x < 8 → (codeOfN fixedLs).sg.getD (168 + x) 0 = 280 + x := by decide +kernel
theorem fixed_sg4 : ∀ x, x < 112 → (codeOfN fixedLs).sg.getD (176 + x) 0 = 144 + x := by decide +kernel
theorem code_lt {N L p n x q : Nat} (h : codeN N L p n = .ok (x, q)) : x < 2 ^ n := by
  unfold codeN at h
  cases hn : num N L p n with
  | error e => rw [hn] at h; cases h
  | ok v =>
    obtain ⟨y, r⟩ := v
    rw [hn] at h
    simp only [Except.ok.injEq, Prod.mk.injEq] at h
    rw [← h.1]; exact rev_lt n y
theorem fixed_sign (N L p : Nat) : signR N L (codesT fixedLs) p = fixedSignN N L p := by
  rw [sign_same fixedLs_15 fixedLs_good]
  unfold signN
  rw [fixed_long, show (9 : Nat) = 3 + 6 from rfl, sign_skip N L _ p 6 3 (by omega) (fun j h1 h2 => by
    rw [fixed_cnt]
    have : j = 1 ∨ j = 2 ∨ j = 3 ∨ j = 4 ∨ j = 5 ∨ j = 6 := by omega
    rcases this with rfl | rfl | rfl | rfl | rfl | rfl <;> rfl)]
  unfold fixedSignN
  rw [show codeN N L p 7 = _ from codeN_succ N L p 6]
  cases h6 : codeN N L p 6 with
  | error e => rfl
  | ok v =>
    obtain ⟨x6, q6⟩ := v
    have hx6 : x6 < 64 := code_lt h6
    simp only []
    rw [signGo, fixed_cnt]
    cases h7 : num N L q6 1 with
    | error e => rfl
    | ok v =>
      obtain ⟨b7, q7⟩ := v
      have hb7 := (num_ok h7).1
      simp only []
      show (if 2 * x6 + b7 < 0 + 24 then _ else _) = _
      obtain ⟨x7, hx7⟩ : ∃ x7, 2 * x6 + b7 = x7 := ⟨_, rfl⟩
      rw [hx7]
      by_cases c7 : x7 ≤ 23
      · rw [if_pos c7, if_pos (by omega), show 0 + x7 - 0 = x7 by omega, fixed_sg1 x7 (by omega)]
      · rw [if_neg c7, if_neg (by omega), signGo, fixed_cnt]
        cases h8 : num N L q7 1 with
        | error e => rfl
        | ok v =>
          obtain ⟨b8, q8⟩ := v
          have hb8 := (num_ok h8).1
          simp only []
          show (if 2 * x7 + b8 < 2 * (0 + 24) + 152 then _ else _) = _
          obtain ⟨x8, hx8⟩ : ∃ x8, 2 * x7 + b8 = x8 := ⟨_, rfl⟩
          rw [hx8]
          by_cases c8 : x8 ≤ 191
          · rw [if_pos c8, if_pos (by omega)]
            show Except.ok ((codeOfN fixedLs).sg.getD (0 + 24 + x8 - 2 * (0 + 24)) 0, q8) = _
            rw [show 0 + 24 + x8 - 2 * (0 + 24) = 24 + (x8 - 48) by omega, fixed_sg2 _ (by omega)]
          · rw [if_neg c8]
            by_cases c9 : x8 ≤ 199
            · rw [if_pos c9, if_pos (by omega)]
              show Except.ok ((codeOfN fixedLs).sg.getD (0 + 24 + x8 - 2 * (0 + 24)) 0, q8) = _
              rw [show 0 + 24 + x8 - 2 * (0 + 24) = 168 + (x8 - 192) by omega, fixed_sg3 _ (by omega), show 280 + (x8 - 192) = 280 + x8 - 192 by omega]
            · rw [if_neg c9, if_neg (by omega), signGo, fixed_cnt]
              cases h9 : num N L q8 1 with
              | error e => rfl
              | ok v =>
                obtain ⟨b9, q9⟩ := v
                have hb9 := (num_ok h9).1
                simp only []
                show (if 2 * x8 + b9 < 2 * (2 * (0 + 24) + 152) + 112 then _ else _) = _
                rw [if_pos (by omega)]
                show Except.ok ((codeOfN fixedLs).sg.getD (0 + 24 + 152 + (2 * x8 + b9) - 2 * (2 * (0 + 24) + 152)) 0, q9) = _
                rw [show 0 + 24 + 152 + (2 * x8 + b9) - 2 * (2 * (0 + 24) + 152) = 176 + (2 * x8 + b9 - 400) by omega, fixed_sg4 _ (by omega), show 144 + (2 * x8 + b9 - 400) = 144 + (2 * x8 + b9) - 400 by omega]
theorem fives_cnt : (codeOfN fives).cnt = [0, 0, 0, 0, 0, 32, 0, 0, 0, 0, 0, 0, 0, 0, 0, 0] := by decide +kernel
theorem fives_long : (codeOfN fives).longest = 5 := by decide +kernel
theorem fives_sg : ∀ x, x < 32 → (codeOfN fives).sg.getD x 0 = x := by decide +kernel
theorem fixed_dist (N L p : Nat) : signR N L (codesT fives) p = fixedDistN N L p := by
  rw [sign_same fives_15 fives_good]
  unfold signN
  rw [fives_long, show (5 : Nat) = 1 + 4 from rfl, sign_skip N L _ p 4 1 (by omega) (fun j h1 h2 => by
    rw [fives_cnt]
    have : j = 1 ∨ j = 2 ∨ j = 3 ∨ j = 4 := by omega
    rcases this with rfl | rfl | rfl | rfl <;> rfl)]
  unfold fixedDistN
  rw [show codeN N L p 5 = _ from codeN_succ N L p 4]
  cases h6 : codeN N L p 4 with
  | error e => rfl
  | ok v =>
    obtain ⟨x6, q6⟩ := v
    have hx6 := code_lt h6
    simp only []
    rw [signGo, fives_cnt]
    cases h7 : num N L q6 1 with
    | error e => rfl
    | ok v =>
      obtain ⟨b7, q7⟩ := v
      have hb7 := (num_ok h7).1
      simp only []
      show (if 2 * x6 + b7 < 0 + 32 then _ else _) = _
      have : (2 : Nat) ^ 4 = 16 := rfl
      rw [if_pos (by omega), show 0 + (2 * x6 + b7) - 0 = 2 * x6 + b7 by omega, fives_sg _ (by omega)]
end Go.Proofs.YtglgchjkonjpiaaGreatDoor
