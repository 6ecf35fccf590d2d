/- Packed, and back: plainly. -/
import Derived.Test.YtglgchjkonjpiaaGreatDoorPackWalk
import Derived.Test.YtglgchjkonjpiaaGreatDoorInfE
import Derived.Test.YtglgchjkonjpiaaGreatDoorStB
/-! Packed, and back: plainly. -/
namespace Go.Proofs.YtglgchjkonjpiaaGreatDoor
open Plain
set_option linter.unusedVariables false
def Lt (v : Nat × Nat) : Prop := v.1 < 2 ^ v.2
/-- N begins with what v has put. -/
def Ext (v : Nat × Nat) (N : Nat) : Prop := ∃ y, N = v.1 + y * 2 ^ v.2
theorem put_lt {x n : Nat} {v : Nat × Nat} (h : Lt v) (hx : x < 2 ^ n) : Lt (put x n v) := more_lt h hx
theorem read_put {x n N : Nat} {v : Nat × Nat} (h : Lt v) (hx : x < 2 ^ n) (he : Ext (put x n v) N) : N / 2 ^ v.2 % 2 ^ n = x ∧ Ext v N := by
  obtain ⟨y, hy⟩ := he
  refine ⟨?_, x + y * 2 ^ n, ?_⟩
  · rw [hy]; exact bits_read h hx y
  · rw [hy]
    show v.1 + x * 2 ^ v.2 + y * 2 ^ (v.2 + n) = _
    rw [Nat.add_mul, Nat.pow_add, Nat.add_assoc, Nat.mul_assoc y, Nat.mul_comm (2 ^ n)]
theorem num_put {x n N L : Nat} {v : Nat × Nat} (h : Lt v) (hx : x < 2 ^ n) (he : Ext (put x n v) N) (hL : v.2 + n ≤ L) : num N L v.2 n = .ok (x, v.2 + n) := by
  unfold num
  rw [if_pos hL, (read_put h hx he).1]
theorem fixC_lt (s : Nat) (hs : s ≤ 287) : (fixC s).1 < 2 ^ (fixC s).2 := by
  unfold fixC
  split
  · show 48 + s < 256; omega
  · split
    · show 400 + s - 144 < 512; omega
    · split
      · show s - 256 < 128; omega
      · show 192 + s - 280 < 256; omega
theorem putS_lt {s : Nat} {v : Nat × Nat} (h : Lt v) : Lt (putS s v) := put_lt h (rev_lt _ _)
theorem putC_lt {c n : Nat} {v : Nat × Nat} (h : Lt v) : Lt (putC c n v) := put_lt h (rev_lt _ _)
theorem tab7 : ∀ s, s < 24 → rev 7 (rev 7 s % 2 ^ 7) = s := by decide +kernel
theorem tab8 : ∀ c, c < 256 → rev 7 (rev 8 c % 2 ^ 7) = c / 2 ∧ rev 8 c / 2 ^ 7 = c % 2 := by decide +kernel
theorem tab9 : ∀ c, c < 512 → rev 7 (rev 9 c % 2 ^ 7) = c / 4 ∧ rev 9 c / 2 ^ 7 % 2 ^ 1 = c / 2 % 2 ∧ rev 9 c / 2 ^ 8 = c % 2 := by decide +kernel
theorem tab5 : ∀ c, c < 32 → rev 5 (rev 5 c) = c := by decide +kernel
theorem fixed_read {N L s : Nat} {v : Nat × Nat} (h : Lt v) (hs : s ≤ 285) (he : Ext (putS s v) N) (hL : (putS s v).2 ≤ L) : fixedSignN N L v.2 = .ok (s, (putS s v).2) := by
  obtain ⟨V, T⟩ := v
  have hb := (read_put h (rev_lt _ _) he).1
  have hL' : T + (fixC s).2 ≤ L := hL
  show fixedSignN N L T = .ok (s, T + (fixC s).2)
  simp only at hb
  have c7 : ∀ n, 7 ≤ n → T + n ≤ L → codeN N L T 7 = .ok (rev 7 (N / 2 ^ T % 2 ^ n % 2 ^ 7), T + 7) := fun n hn hl => by
    unfold codeN num
    rw [if_pos (by omega), bits_mod N T 7 n hn]
  unfold fixC at hb hL' ⊢
  by_cases h1 : s ≤ 143
  · rw [if_pos h1] at hb hL' ⊢
    simp only at hb hL' ⊢
    obtain ⟨t1, t2⟩ := tab8 (48 + s) (by omega)
    have hn : num N L (T + 7) 1 = .ok ((48 + s) % 2, T + 8) := by
      unfold num
      rw [if_pos (by omega), ← t2, ← hb, bits_div N T 7 8 (by omega)]
    unfold fixedSignN
    rw [c7 8 (by omega) hL', hb, t1]
    simp only []
    rw [if_neg (by omega), hn]
    simp only []
    rw [if_pos (by omega), show 2 * ((48 + s) / 2) + (48 + s) % 2 - 48 = s by omega]
  · rw [if_neg h1] at hb hL' ⊢
    by_cases h2 : s ≤ 255
    · rw [if_pos h2] at hb hL' ⊢
      simp only at hb hL' ⊢
      obtain ⟨t1, t2, t3⟩ := tab9 (400 + s - 144) (by omega)
      have hn : num N L (T + 7) 1 = .ok ((400 + s - 144) / 2 % 2, T + 8) := by
        unfold num
        rw [if_pos (by omega), ← t2, ← hb, bits_div N T 7 9 (by omega), bits_mod N (T + 7) 1 2 (by omega)]
      have hn2 : num N L (T + 8) 1 = .ok ((400 + s - 144) % 2, T + 9) := by
        unfold num
        rw [if_pos (by omega), ← t3, ← hb, bits_div N T 8 9 (by omega)]
      unfold fixedSignN
      rw [c7 9 (by omega) hL', hb, t1]
      simp only []
      rw [if_neg (by have : 100 ≤ (400 + s - 144) / 4 := by omega
                     omega), hn]
      simp only []
      have e1 : 2 * ((400 + s - 144) / 4) + (400 + s - 144) / 2 % 2 = (400 + s - 144) / 2 := by
        rw [show (400 + s - 144) / 4 = (400 + s - 144) / 2 / 2 from (Nat.div_div_eq_div_mul _ 2 2).symm]
        omega
      rw [e1, if_neg (by omega), if_neg (by omega), hn2]
      simp only []
      rw [show 144 + (2 * ((400 + s - 144) / 2) + (400 + s - 144) % 2) - 400 = s by omega]
    · rw [if_neg h2] at hb hL' ⊢
      by_cases h3 : s ≤ 279
      · rw [if_pos h3] at hb hL' ⊢
        simp only at hb hL' ⊢
        have t1 := tab7 (s - 256) (by omega)
        unfold fixedSignN
        rw [c7 7 (by omega) hL', hb, t1]
        simp only []
        rw [if_pos (by omega), show 256 + (s - 256) = s by omega]
      · rw [if_neg h3] at hb hL' ⊢
        simp only at hb hL' ⊢
        obtain ⟨t1, t2⟩ := tab8 (192 + s - 280) (by omega)
        have hn : num N L (T + 7) 1 = .ok ((192 + s - 280) % 2, T + 8) := by
          unfold num
          rw [if_pos (by omega), ← t2, ← hb, bits_div N T 7 8 (by omega)]
        unfold fixedSignN
        rw [c7 8 (by omega) hL', hb, t1]
        simp only []
        rw [if_neg (by omega), hn]
        simp only []
        rw [if_neg (by omega), if_pos (by omega), show 280 + (2 * ((192 + s - 280) / 2) + (192 + s - 280) % 2) - 192 = s by omega]
theorem fdist_read {N L s : Nat} {v : Nat × Nat} (h : Lt v) (hs : s < 32) (he : Ext (putC s 5 v) N) (hL : v.2 + 5 ≤ L) : fixedDistN N L v.2 = .ok (s, v.2 + 5) := by
  have hb := num_put h (rev_lt 5 s) he hL
  unfold fixedDistN codeN
  rw [hb]
  simp only []
  rw [tab5 s hs]
/-! ### Lengths and distances -/
theorem len_table : ∀ n, n < 258 → 11 ≤ n → 265 ≤ 261 + 4 * (bl (n - 3) - 3) + (n - 3) / 2 ^ (bl (n - 3) - 3) % 4 ∧ 261 + 4 * (bl (n - 3) - 3) + (n - 3) / 2 ^ (bl (n - 3) - 3) % 4 ≤ 284 ∧
    (261 + 4 * (bl (n - 3) - 3) + (n - 3) / 2 ^ (bl (n - 3) - 3) % 4 - 261) / 4 = bl (n - 3) - 3 ∧
    3 + (4 + (261 + 4 * (bl (n - 3) - 3) + (n - 3) / 2 ^ (bl (n - 3) - 3) % 4 - 261) % 4) * 2 ^ (bl (n - 3) - 3) + (n - 3) % 2 ^ (bl (n - 3) - 3) = n := by decide +kernel
theorem length_read {N L n : Nat} {v : Nat × Nat} (h : Lt v) (h3 : 3 ≤ n) (hn : n ≤ 258) (he : Ext (putLen n v) N) (hL : (putLen n v).2 ≤ L) :
    ∃ s, fixedSignN N L v.2 = .ok (s, (putS s v).2) ∧ 257 ≤ s ∧ s ≤ 285 ∧ Ext (putS s v) N ∧ Lt (putLen n v) ∧ lengthN N L (putS s v).2 s = .ok (n, (putLen n v).2) := by
  unfold putLen at he hL ⊢
  by_cases h1 : n = 258
  · rw [if_pos h1] at he hL ⊢
    refine ⟨285, fixed_read h (by omega) he hL, by omega, by omega, he, putS_lt h, ?_⟩
    unfold lengthN
    rw [if_neg (by omega), if_pos rfl, h1]
  · rw [if_neg h1] at he hL ⊢
    by_cases h2 : n ≤ 10
    · rw [if_pos h2] at he hL ⊢
      refine ⟨254 + n, fixed_read h (by omega) he hL, by omega, by omega, he, putS_lt h, ?_⟩
      unfold lengthN
      rw [if_pos (by omega), show 254 + n - 254 = n by omega]
    · rw [if_neg h2] at he hL ⊢
      obtain ⟨t1, t2, t3, t4⟩ := len_table n (by omega) (by omega)
      generalize 261 + 4 * (bl (n - 3) - 3) + (n - 3) / 2 ^ (bl (n - 3) - 3) % 4 = s at *
      have hz : (n - 3) % 2 ^ (bl (n - 3) - 3) < 2 ^ (bl (n - 3) - 3) := Nat.mod_lt _ (Nat.two_pow_pos _)
      generalize hf : bl (n - 3) - 3 = f at *
      have hLs : (putS s v).2 + f ≤ L := hL
      have hr := num_put (putS_lt (s := s) h) hz he hLs
      have hx := (read_put (putS_lt (s := s) h) hz he).2
      refine ⟨s, fixed_read h (by omega) hx (by omega), by omega, by omega, hx, put_lt (putS_lt h) hz, ?_⟩
      unfold lengthN
      rw [if_neg (by omega), if_neg (by omega), t3, hr]
      simp only []
      rw [t4]
      rfl
theorem dist_read {N L d : Nat} {v : Nat × Nat} (h : Lt v) (h1 : 1 ≤ d) (hd : d ≤ 32768) (he : Ext (putDist d v) N) (hL : (putDist d v).2 ≤ L) :
    ∃ s, fixedDistN N L v.2 = .ok (s, v.2 + 5) ∧ Ext v N ∧ Lt (putDist d v) ∧ distN N L (v.2 + 5) s = .ok (d, (putDist d v).2) := by
  unfold putDist at he hL ⊢
  obtain ⟨x, hx⟩ : ∃ x, d - 1 = x := ⟨_, rfl⟩
  rw [hx] at he hL ⊢
  by_cases h3 : x ≤ 3
  · rw [if_pos h3] at he hL ⊢
    have hL5 : v.2 + 5 ≤ L := hL
    refine ⟨x, fdist_read h (by omega) he hL5, (read_put h (rev_lt _ _) he).2, putC_lt h, ?_⟩
    unfold distN
    rw [if_neg (by omega), if_pos h3, show x + 1 = d by omega]
    rfl
  · rw [if_neg h3] at he hL ⊢
    have hb2 : 3 ≤ bl x := bl_pos (k := 2) (by omega)
    have hb15 : bl x ≤ 15 := by
      unfold bl; rw [if_neg (by omega)]
      have := (Nat.log2_lt (by omega : x ≠ 0) (k := 15)).2 (by omega)
      omega
    obtain ⟨d1, d2⟩ := bl_div (x := x) 2 (by omega) (by omega) (by omega)
    generalize hf : bl x - 2 = f at *
    have hz : x % 2 ^ f < 2 ^ f := Nat.mod_lt _ (Nat.two_pow_pos _)
    have hdm := Nat.div_add_mod x (2 ^ f)
    generalize x / 2 ^ f = y at *
    have hy : y = 2 + y % 2 := by omega
    have hs : 2 + 2 * f + y % 2 < 30 := by omega
    have hs4 : 4 ≤ 2 + 2 * f + y % 2 := by omega
    generalize hss : 2 + 2 * f + y % 2 = s at *
    have hL5 : v.2 + 5 + f ≤ L := hL
    have hr := num_put (putC_lt (c := s) (n := 5) h) hz he hL5
    have hx2 := (read_put (putC_lt (c := s) (n := 5) h) hz he).2
    refine ⟨s, fdist_read h (by omega) hx2 (by omega), (read_put h (rev_lt _ _) hx2).2, put_lt (putC_lt h) hz, ?_⟩
    unfold distN
    rw [if_neg (by omega), if_neg (by omega), show (s - 2) / 2 = f by omega]
    have hr' : num N L (v.2 + 5) f = .ok (x % 2 ^ f, v.2 + 5 + f) := hr
    rw [hr']
    simp only []
    rw [show 2 + s % 2 = y by omega]
    have : 1 + y * 2 ^ f + x % 2 ^ f = d := by rw [Nat.mul_comm]; omega
    rw [this]
    rfl
/-! ### Bytes again -/
theorem again_read {bs : List Int} {most d : Nat} : ∀ (l k : Nat), 1 ≤ d → d ≤ k → k + l ≤ bs.length → bs.length ≤ most → (∀ j, j < l → bs[k - d + j]?.getD 0 = bs[k + j]?.getD 0) → againGo most d l (bs.take k) = .ok (bs.take (k + l))
  | 0, k, _, _, _, _, _ => rfl
  | l + 1, k, h1, hd, hl, hm, hj => by
    have hlen : (bs.take k).length = k := by rw [List.length_take]; omega
    have h0 := hj 0 (by omega)
    rw [Nat.add_zero, Nat.add_zero] at h0
    have hget : (bs.take k)[k - d]?.getD 0 = bs[k]?.getD 0 := by rw [List.getElem?_take_of_lt (by omega), h0]
    have hk : bs.take k ++ [bs[k]?.getD 0] = bs.take (k + 1) := by
      rw [List.take_succ_eq_append_getElem (by omega), List.getElem?_eq_getElem (show k < bs.length by omega)]; rfl
    rw [againGo, hlen, hget, giveN, if_neg (by omega)]
    simp only []
    rw [hk, again_read l (k + 1) h1 (by omega) (by omega) hm (fun j hjl => by
      have := hj (j + 1) (by omega)
      rw [show k + 1 - d + j = k - d + (j + 1) by omega, show k + 1 + j = k + (j + 1) by omega]
      exact this), show k + 1 + l = k + (l + 1) by omega]
/-- One step, read. -/
theorem step_read {bs : List Int} (hb : ∀ x ∈ bs, 0 ≤ x ∧ x ≤ 255) {N L most k : Nat} {v : Nat × Nat} (hk : k < bs.length) (h30 : bs.length ≤ 30000) (hm : bs.length ≤ most) (h : Lt v) (he : Ext (stepV bs k v) N) (hL : (stepV bs k v).2 ≤ L) :
    stepN N L most (fixedSignN N L) (fixedDistN N L) v.2 (bs.take k) = .ok (true, (stepV bs k v).2, bs.take (k + stepL bs k)) ∧ Lt (stepV bs k v) ∧ Ext v N ∧ v.2 ≤ (stepV bs k v).2 := by
  have hlen : (bs.take k).length = k := by rw [List.length_take]; omega
  by_cases h0 : (findN bs k).1 = 0
  · have hSL : stepL bs k = 1 := by unfold stepL; rw [if_pos h0]
    have hSV : stepV bs k v = putS (bs[k]?.getD 0).toNat v := by unfold stepV; rw [if_pos h0]
    rw [hSL]
    rw [hSV] at he hL ⊢
    have hx := hb (bs[k]) (List.getElem_mem hk)
    have hg : bs[k]?.getD 0 = bs[k] := by rw [List.getElem?_eq_getElem hk]; rfl
    obtain ⟨x, ex⟩ : ∃ x : Nat, bs[k]?.getD 0 = (x : Int) := Int.eq_ofNat_of_zero_le (by rw [hg]; exact hx.1)
    have hx5 : x ≤ 255 := by rw [hg] at ex; omega
    rw [ex, Int.toNat_natCast] at he hL ⊢
    have hs := fixed_read h (by omega) he hL
    have hkk : bs.take k ++ [(x : Int)] = bs.take (k + 1) := by
      rw [List.take_succ_eq_append_getElem hk, ← hg, ex]
    refine ⟨?_, putS_lt h, (read_put h (rev_lt _ _) he).2, by show v.2 ≤ v.2 + _; omega⟩
    unfold stepN
    rw [hs]
    simp only []
    rw [if_pos (by omega), giveN, hlen, if_neg (by omega)]
    simp only []
    rw [hkk]
  · have hf := findN_ok (bs := bs) (k := k) (l := (findN bs k).1) (d := (findN bs k).2) rfl h0
    have hSL : stepL bs k = (findN bs k).1 := by unfold stepL; rw [if_neg h0]
    have hSV : stepV bs k v = putDist (findN bs k).2 (putLen (findN bs k).1 v) := by unfold stepV; rw [if_neg h0]
    have hd5 : (findN bs k).2 ≤ 32768 := by have := findN_two bs k; omega
    rw [hSL]
    rw [hSV] at he hL ⊢
    generalize (findN bs k).1 = l at *
    generalize (findN bs k).2 = d at *
    obtain ⟨f3, f258, fkl, fd1, fdk, fj⟩ := hf
    have hle2 : (putLen l v).2 ≤ (putDist d (putLen l v)).2 := by
      unfold putDist
      split
      · show _ ≤ (putLen l v).2 + 5; omega
      · show _ ≤ (putLen l v).2 + 5 + _; omega
    have hLl : Lt (putLen l v) := by
      unfold putLen
      split
      · exact putS_lt h
      · split
        · exact putS_lt h
        · exact put_lt (putS_lt h) (Nat.mod_lt _ (Nat.two_pow_pos _))
    obtain ⟨t, r1, r2, r3, r4⟩ := dist_read hLl fd1 hd5 he hL
    obtain ⟨s, s1, s2, s3, s4, s5, s6⟩ := length_read (L := L) h f3 f258 r2 (by omega)
    have hvs := (read_put h (rev_lt _ _) s4).2
    have hve : v.2 ≤ (putLen l v).2 := by
      unfold putLen
      split
      · show v.2 ≤ v.2 + _; omega
      · split
        · show v.2 ≤ v.2 + _; omega
        · show v.2 ≤ v.2 + _ + _; omega
    refine ⟨?_, r3, hvs, by omega⟩
    unfold stepN
    rw [s1]
    simp only []
    rw [if_neg (by omega), if_neg (by omega), if_neg (by omega), s6]
    simp only []
    rw [r1]
    simp only []
    rw [r4]
    simp only []
    rw [againN, hlen, if_neg (by omega), again_read l k fd1 fdk fkl hm fj]
theorem packGo_down (bs : List Int) (h30 : bs.length ≤ 30000) : ∀ (f k : Nat) (v : Nat × Nat), v.2 ≤ (packGo bs f k v).2
  | 0, k, v => Nat.le_refl _
  | f + 1, k, v => by
    rw [packGo]
    split
    · exact Nat.le_refl _
    · refine Nat.le_trans ?_ (packGo_down bs h30 f _ _)
      unfold stepV
      split
      · show v.2 ≤ v.2 + _; omega
      · have h1 : v.2 ≤ (putLen (findN bs k).1 v).2 := by
          unfold putLen
          split
          · show v.2 ≤ v.2 + _; omega
          · split
            · show v.2 ≤ v.2 + _; omega
            · show v.2 ≤ v.2 + _ + _; omega
        refine Nat.le_trans h1 ?_
        unfold putDist
        split
        · show _ ≤ (putLen _ v).2 + 5; omega
        · show _ ≤ (putLen _ v).2 + 5 + _; omega
theorem stepV_lt {bs : List Int} {k : Nat} {v : Nat × Nat} (h : Lt v) : Lt (stepV bs k v) := by
  have hl : ∀ n, Lt (putLen n v) := fun n => by
    unfold putLen
    split
    · exact putS_lt h
    · split
      · exact putS_lt h
      · exact put_lt (putS_lt h) (Nat.mod_lt _ (Nat.two_pow_pos _))
  unfold stepV
  split
  · exact putS_lt h
  · unfold putDist
    split
    · exact putC_lt (hl _)
    · exact put_lt (putC_lt (hl _)) (Nat.mod_lt _ (Nat.two_pow_pos _))
theorem pack_read {bs : List Int} (hb : ∀ x ∈ bs, 0 ≤ x ∧ x ≤ 255) (h30 : bs.length ≤ 30000) {N L most : Nat} (hm : bs.length ≤ most) : ∀ (f k : Nat) (v : Nat × Nat), bs.length - k ≤ f → k ≤ bs.length → Lt v →
    Ext (putS 256 (packGo bs f k v)) N → (putS 256 (packGo bs f k v)).2 ≤ L →
    signsN N L most (fixedSignN N L) (fixedDistN N L) v.2 (bs.take k) = .ok ((putS 256 (packGo bs f k v)).2, bs) ∧ Ext v N
  | f, k, v, hf, hk, hv, he, hL => by
    by_cases hkl : k = bs.length
    · have hp : packGo bs f k v = v := by
        cases f with
        | zero => rfl
        | succ f => rw [packGo, if_pos (by omega)]
      rw [hp] at he hL ⊢
      have hL2 : v.2 + 7 ≤ L := hL
      have hs := fixed_read hv (by omega) he hL
      refine ⟨?_, (read_put hv (rev_lt _ _) he).2⟩
      rw [signsN_step (adv_fixedSign _ _) (adv_fixedDist _ _) _ _ (by omega)]
      have : stepN N L most (fixedSignN N L) (fixedDistN N L) v.2 (bs.take k) = .ok (false, (putS 256 v).2, bs.take k) := by
        unfold stepN
        rw [hs]
        rfl
      rw [this, hkl, List.take_length]
      rfl
    · obtain ⟨g, rfl⟩ : ∃ g, f = g + 1 := ⟨f - 1, by omega⟩
      have hpos := stepL_pos bs k (by omega)
      have hp : packGo bs (g + 1) k v = packGo bs g (k + stepL bs k) (stepV bs k v) := by rw [packGo, if_neg (by omega)]
      rw [hp] at he hL ⊢
      have ih := pack_read hb h30 hm g (k + stepL bs k) (stepV bs k v) (by omega) hpos.2 (stepV_lt hv) he hL
      have hdn := packGo_down bs h30 g (k + stepL bs k) (stepV bs k v)
      have hL3 : (packGo bs g (k + stepL bs k) (stepV bs k v)).2 + 7 ≤ L := hL
      have hst := step_read (L := L) hb (by omega) h30 hm hv ih.2 (by omega)
      refine ⟨?_, hst.2.2.1⟩
      rw [signsN_step (adv_fixedSign _ _) (adv_fixedDist _ _) _ _ (by omega), hst.1]
      exact ih.1
theorem packed_len (bs : List Int) : (packedN bs).length = ((packV bs).2 + 7) / 8 := by unfold packedN; rw [bytesN_len]
theorem packGo_lt (bs : List Int) : ∀ (f k : Nat) (v : Nat × Nat), Lt v → Lt (packGo bs f k v)
  | 0, k, v, h => h
  | f + 1, k, v, h => by
    rw [packGo]
    split
    · exact h
    · exact packGo_lt bs f _ _ (stepV_lt h)
/-- What is packed is unpacked. -/
theorem packed_back {bs : List Int} (hb : ∀ x ∈ bs, 0 ≤ x ∧ x ≤ 255) (h30 : bs.length ≤ 30000) {most : Nat} (hm : bs.length ≤ most) : rawOf (packedN bs) most = .ok ((packV bs).2, bs) := by
  have hlt : Lt (packV bs) := putS_lt (packGo_lt bs _ _ _ (show (3 : Nat) < 2 ^ 3 by decide))
  have hstream : streamN (packedN bs) = (packV bs).1 := by
    unfold packedN
    rw [stream_bytesN, Nat.mod_eq_of_lt]
    exact Nat.lt_of_lt_of_le hlt (Nat.pow_le_pow_right (by omega) (by omega))
  have hex : Ext (packV bs) (packV bs).1 := ⟨0, by omega⟩
  have hr := pack_read hb h30 hm (N := (packV bs).1) (L := 8 * (packedN bs).length) bs.length 0 (3, 3) (by omega) (by omega) (show (3 : Nat) < 2 ^ 3 by decide) hex (by rw [packed_len]; show (packV bs).2 ≤ _; omega)
  obtain ⟨⟨y, hy⟩, hr⟩ := (⟨hr.2, hr.1⟩ : _ ∧ _)
  have hT : 3 ≤ (packV bs).2 := by
    have := packGo_down bs h30 bs.length 0 (3, 3)
    show 3 ≤ (packGo bs bs.length 0 (3, 3)).2 + 7
    omega
  have hy' : (packV bs).1 = 3 + y * 8 := hy
  unfold rawOf
  rw [hstream, rawGo]
  have hL : 3 ≤ 8 * (packedN bs).length := by rw [packed_len]; omega
  have n1 : num (packV bs).1 (8 * (packedN bs).length) 0 1 = .ok (1, 1) := by
    unfold num
    rw [if_pos (by omega), hy', Nat.pow_zero, Nat.div_one, show (3 + y * 8) % 2 ^ 1 = 1 by omega]
  have n2 : num (packV bs).1 (8 * (packedN bs).length) 1 2 = .ok (1, 3) := by
    unfold num
    rw [if_pos (by omega), hy', show (3 + y * 8) / 2 ^ 1 % 2 ^ 2 = 1 by omega]
  rw [n1]
  simp only []
  rw [n2]
  simp only []
  have hb1 : blockN (packedN bs) (packV bs).1 (8 * (packedN bs).length) most 1 3 [] = .ok ((packV bs).2, bs) := by
    unfold blockN
    rw [if_neg (by omega), if_pos rfl]
    exact hr
  rw [hb1]
  rfl
end Go.Proofs.YtglgchjkonjpiaaGreatDoor
/-! Packing: the walk; packed and back. -/
namespace Go.Proofs.YtglgchjkonjpiaaGreatDoor
open Go.RowKit Plain
set_option linter.unusedVariables false
/-- What Raw packs, for at most 30000 bytes. -/
def rawPack (bs : List Int) : List Int := if (packedN bs).length ≤ bs.length + 5 then packedN bs else storedOf 65535 (bs.length + 1) bs
theorem stored_len (bs : List Int) (h : bs.length ≤ 65535) : (storedOf 65535 (bs.length + 1) bs).length = bs.length + 5 := by
  rw [storedOf, if_pos h, List.length_append]
  show 5 + _ = _
  omega
theorem rawPack_le (bs : List Int) (h : bs.length ≤ 30000) : (rawPack bs).length ≤ bs.length + 5 := by
  unfold rawPack
  split
  · assumption
  · rw [stored_len bs (by omega)]; exact Nat.le_refl _
theorem rawPack_le2 (bs : List Int) (h : bs.length ≤ 30000) : (rawPack bs).length ≤ (packedN bs).length := by
  unfold rawPack
  split
  · exact Nat.le_refl _
  · rw [stored_len bs (by omega)]; omega
theorem rawPack_mem (bs : List Int) (hb : ∀ x ∈ bs, 0 ≤ x ∧ x ≤ 255) : ∀ x ∈ rawPack bs, 0 ≤ x ∧ x ≤ 255 := by
  unfold rawPack
  split
  · exact bytesN_range _ _
  · exact storedOf_range (by omega) _ _ hb
theorem rawPack_back {bs : List Int} (hb : ∀ x ∈ bs, 0 ≤ x ∧ x ≤ 255) (h30 : bs.length ≤ 30000) {most : Nat} (hm : bs.length ≤ most) : ∃ q, rawOf (rawPack bs) most = .ok (q, bs) ∧ (q + 7) / 8 = (rawPack bs).length := by
  unfold rawPack
  split
  · exact ⟨_, packed_back hb h30 hm, (packed_len bs).symm⟩
  · have := stored_back (each := 65535) (by omega) (by omega) most (bs.length + 1) bs [] hb (by omega) (by simpa using hm)
    exact ⟨8 * (storedOf 65535 (bs.length + 1) bs).length, this, by omega⟩
theorem storedSize_any (n : Nat) (hn : n ≤ 30000) (w : World) : Calls Tryz.prog 48 #[.int .i64 (n : Int)] w fun e w' => e = .returned (.int .i64 ((n + 5 : Nat) : Int)) ∧ w = w' := by
  have hq : ((n : Int) + 65535 - 1) / 65535 ≤ 1 := by omega
  have hmax : ∀ W : World, Sem.run Tryz.prog (Builtin.max_ #[3, 3] 3 #[.int .i64 1, .int .i64 (((n : Int) + 65535 - 1) / 65535)]) W = .ok (.int .i64 1) W := fun W => by
    rw [run_max2, show max 1 (((n : Int) + 65535 - 1) / 65535) = 1 by omega]
  clear hq
  go_enter Tryz.func48, Tryz.ntmps48
  go_wp2_with fail
  go_ret
  exact ⟨rfl, rfl⟩
set_option maxRecDepth 100000 in
set_option maxHeartbeats 4000000 in
theorem rawPack_any (a : Option Addr) (m c : Nat) (bs : List Int) (w : World) (H : RowB w a m c bs) (hm : m ≤ 30000) :
    Calls Tryz.prog 24 #[.slice a m c] w fun e w' => (∃ va vc, e = .returned (.slice va (rawPack bs).length vc) ∧ RowB w' va (rawPack bs).length vc (rawPack bs)) ∧ Below w.heap.size w w' := by
  have HY := Lib.hid H
  have hl := H.len
  by_cases hc : (packedN bs).length ≤ bs.length + 5
  · have HP : Hid (rawPack bs = packedN bs) := by show _ = _; rw [rawPack, if_pos hc]
    rw [HP.out]
    rw [hl] at hc
    have HF := Lib.hid (fixed_any a m c bs w H hm)
    generalize packedN bs = P at *
    generalize hpl : P.length = pl at *
    have hci : (pl : Int) ≤ ((m + 5 : Nat) : Int) := by omega
    have hci2 : (pl : Int) ≤ (m : Int) + 5 := by omega
    clear H hl hpl
    go_enter Tryz.func24, Tryz.ntmps24
    go_wp2_with fail
    refine HF.out.mono ?_
    rintro e w1 ⟨⟨va, vc, rfl, hrow⟩, hb⟩
    have HR := Lib.hid hrow
    have HB := Lib.hid hb
    clear hrow hb HF
    go_wp2_with fail
    refine (storedSize_any m hm w1).mono ?_
    rintro e w2 ⟨rfl, rfl⟩
    go_wp2_with fail
    go_ret
    exact ⟨⟨va, vc, rfl, HR.out⟩, HB.out⟩
  · have HP : Hid (rawPack bs = storedOf 65535 (m + 1) bs) := by show _ = _; rw [rawPack, if_neg hc, hl]
    rw [HP.out]
    rw [hl] at hc
    have HF := Lib.hid (fixed_any a m c bs w H hm)
    obtain ⟨S, hS⟩ : ∃ S, storedOf 65535 (m + 1) bs = S := ⟨_, rfl⟩
    rw [hS]
    have HSS := Lib.hid hS
    clear hS HP
    generalize hpp : packedN bs = P at *
    generalize hpl : P.length = pl at *
    have hci : ¬ (pl : Int) ≤ ((m + 5 : Nat) : Int) := by omega
    have hci2 : ¬ (pl : Int) ≤ (m : Int) + 5 := by omega
    clear H hl hpl hpp
    go_enter Tryz.func24, Tryz.ntmps24
    go_wp2_with fail
    refine HF.out.mono ?_
    rintro e w1 ⟨⟨va, vc, rfl, hrow⟩, hb⟩
    have HB := Lib.hid hb
    clear hrow HF
    have HY1 := Lib.hid (HY.out.below hb)
    clear hb
    go_wp2_with fail
    refine (storedSize_any m hm w1).mono ?_
    rintro e w2 ⟨rfl, rfl⟩
    have hss := storedS_any a m c bs w1 HY1.out (by omega)
    rw [HSS.out] at hss
    have HS := Lib.hid hss
    clear hss
    go_wp2_with fail
    refine HS.out.mono ?_
    rintro e w3 ⟨⟨sa, sc, rfl, hrow⟩, hb⟩
    have HR := Lib.hid hrow
    have HB3 : Hid (Below w.heap.size w w3) := HB.out.trans (hb.mono HB.out.size)
    clear hrow hb HS
    go_wp2_with fail
    go_ret
    exact ⟨⟨sa, sc, rfl, HR.out⟩, HB3.out⟩
/-! ### The same byte many times -/
theorem run_get (n : Nat) (c : Int) (i : Nat) (h : i < n) : (List.replicate n c)[i]?.getD 0 = c := by
  rw [List.getElem?_replicate, if_pos h]; rfl
theorem extGo_all {bs : List Int} {p k most : Nat} (h : ∀ j, j < most → bs[p + j]?.getD 0 = bs[k + j]?.getD 0) : ∀ f n, n ≤ most → most ≤ n + f → extGo bs p k most f n = most
  | 0, n, h1, h2 => by rw [extGo]; omega
  | f + 1, n, h1, h2 => by
    rw [extGo]
    by_cases hn : n < most
    · rw [if_pos ⟨hn, h n hn⟩]
      exact extGo_all h f (n + 1) (by omega) (by omega)
    · rw [if_neg (fun hc => hn hc.1)]; omega
theorem run_find (n : Nat) (c : Int) (k : Nat) (h1 : 1 ≤ k) (h3 : k + 3 ≤ n) : findN (List.replicate n c) k = (min 258 (n - k), 1) := by
  obtain ⟨p, rfl⟩ : ∃ p, k = p + 1 := ⟨k - 1, by omega⟩
  have hs : same3 (List.replicate n c) p (p + 1) = true := by
    unfold same3
    rw [run_get n c p (by omega), run_get n c (p + 1) (by omega), run_get n c (p + 2) (by omega), run_get n c (p + 1 + 2) (by omega)]
    simp
  have hl : lastGo (List.replicate n c) (p + 1) (p + 1) = some p := by
    rw [lastGo, if_pos ⟨by rw [List.length_replicate]; omega, hs⟩]
  unfold findN
  rw [if_neg (by rw [List.length_replicate]; omega), hl]
  simp only []
  rw [List.length_replicate, extGo_all (fun j hj => by rw [run_get n c _ (by omega), run_get n c _ (by omega)]) 258 3 (by omega) (by omega)]
  congr 1
  omega
theorem run_small (bs : List Int) (k : Nat) (h : bs.length < k + 3) : findN bs k = (0, 0) := by unfold findN; rw [if_pos h]
theorem run_zero (bs : List Int) : findN bs 0 = (0, 0) := by
  unfold findN
  split <;> rfl
theorem stepV_run {n : Nat} {c : Int} {k : Nat} {v : Nat × Nat} (h1 : 1 ≤ k) (h3 : k + 3 ≤ n) : stepL (List.replicate n c) k = min 258 (n - k) ∧ (stepV (List.replicate n c) k v).2 ≤ v.2 + 19 := by
  have hf := run_find n c k h1 h3
  unfold stepL stepV
  rw [hf]
  simp only []
  rw [if_neg (by omega), if_neg (by omega)]
  refine ⟨rfl, ?_⟩
  have := putLen_two (min 258 (n - k)) v (by omega)
  unfold putDist
  rw [if_pos (by omega)]
  show (putLen _ v).2 + 5 ≤ _
  omega
theorem stepV_lit {bs : List Int} {k : Nat} {v : Nat × Nat} (h : findN bs k = (0, 0)) : stepL bs k = 1 ∧ (stepV bs k v).2 ≤ v.2 + 9 := by
  unfold stepL stepV
  rw [h]
  simp only []
  rw [if_pos trivial, if_pos trivial]
  exact ⟨rfl, putS_two _ _⟩
theorem run_pack (n : Nat) (c : Int) : ∀ (f k : Nat) (v : Nat × Nat), 1 ≤ k → k ≤ n → n - k ≤ f → (packGo (List.replicate n c) f k v).2 ≤ v.2 + 19 * ((n - k) / 258) + 19
  | 0, k, v, _, _, _ => by rw [packGo]; omega
  | f + 1, k, v, h1, hkn, hf => by
    rw [packGo, List.length_replicate]
    split
    · omega
    · rename_i hk
      by_cases h3 : k + 3 ≤ n
      · obtain ⟨e1, e2⟩ := stepV_run (c := c) (v := v) h1 h3
        have ih := run_pack n c f (k + min 258 (n - k)) (stepV (List.replicate n c) k v) (by omega) (by omega) (by omega)
        rw [e1]
        by_cases h258 : 258 ≤ n - k
        · rw [Nat.min_eq_left h258] at ih ⊢
          have : (n - (k + 258)) / 258 + 1 = (n - k) / 258 := by omega
          omega
        · rw [Nat.min_eq_right (by omega)] at ih ⊢
          have hend : packGo (List.replicate n c) f (k + (n - k)) (stepV (List.replicate n c) k v) = stepV (List.replicate n c) k v := by
            cases f with
            | zero => rfl
            | succ f => rw [packGo, if_pos (by rw [List.length_replicate]; omega)]
          rw [hend]
          omega
      · have hlit : ∀ k', n < k' + 3 → findN (List.replicate n c) k' = (0, 0) := fun k' h => run_small _ _ (by rw [List.length_replicate]; exact h)
        obtain ⟨e1, e2⟩ := stepV_lit (v := v) (hlit k (by omega))
        rw [e1]
        cases f with
        | zero => rw [packGo]; omega
        | succ f =>
          rw [packGo, List.length_replicate]
          split
          · omega
          · rename_i hk1
            obtain ⟨e3, e4⟩ := stepV_lit (v := stepV (List.replicate n c) k v) (hlit (k + 1) (by omega))
            rw [e3]
            have hend : packGo (List.replicate n c) f (k + 1 + 1) (stepV (List.replicate n c) (k + 1) (stepV (List.replicate n c) k v)) = stepV (List.replicate n c) (k + 1) (stepV (List.replicate n c) k v) := by
              cases f with
              | zero => rfl
              | succ f => rw [packGo, if_pos (by rw [List.length_replicate]; omega)]
            rw [hend]
            omega
theorem run_len (n : Nat) (c : Int) (hn : n ≤ 30000) : (rawPack (List.replicate n c)).length ≤ 20 + n / 50 := by
  refine Nat.le_trans (rawPack_le2 _ (by rw [List.length_replicate]; exact hn)) ?_
  rw [packed_len]
  have h1 : (packV (List.replicate n c)).2 ≤ (packGo (List.replicate n c) n 0 (3, 3)).2 + 9 := by
    unfold packV
    rw [List.length_replicate]
    exact putS_two _ _
  have h2 : (packGo (List.replicate n c) n 0 (3, 3)).2 ≤ 31 + 19 * ((n - 1) / 258) := by
    cases n with
    | zero => show 3 ≤ _; omega
    | succ n =>
      rw [packGo, if_neg (by rw [List.length_replicate]; omega)]
      obtain ⟨e1, e2⟩ := stepV_lit (v := (3, 3)) (run_zero (List.replicate (n + 1) c))
      rw [e1]
      have := run_pack (n + 1) c n (0 + 1) (stepV (List.replicate (n + 1) c) 0 (3, 3)) (by omega) (by omega) (by omega)
      simp only at e2
      omega
  omega
end Go.Proofs.YtglgchjkonjpiaaGreatDoor
