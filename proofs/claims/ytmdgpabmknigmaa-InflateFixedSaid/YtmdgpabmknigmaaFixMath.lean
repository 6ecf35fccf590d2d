/- Signs by the codes that are given, laid down as bits, and read again: plainly. -/
import Derived.Test.YtmdgpabmknigmaaBitsMath
import Derived.Test.YtmdgpabmknigmaaRefSigns
import Derived.Test.YtmdgpabmknigmaaRefC
namespace Go.Proofs.Ytmdgpabmknigmaa
open Plain
set_option linter.unusedVariables false
namespace Plain
/-- A sign's code, and how many bits it has. -/
def fixC (s : Nat) : Nat × Nat := if s ≤ 143 then (48 + s, 8) else if s ≤ 255 then (400 + s - 144, 9) else if s ≤ 279 then (s - 256, 7) else (192 + s - 280, 8)
/-- n bits more. -/
def put (x n : Nat) (v : Nat × Nat) : Nat × Nat := (v.1 + x * 2 ^ v.2, v.2 + n)
def putC (c n : Nat) (v : Nat × Nat) : Nat × Nat := put (rev n c) n v
def putS (s : Nat) (v : Nat × Nat) : Nat × Nat := putC (fixC s).1 (fixC s).2 v
end Plain
def Lt (v : Nat × Nat) : Prop := v.1 < 2 ^ v.2
/-- N begins with what v has put. -/
def Ext (v : Nat × Nat) (N : Nat) : Prop := ∃ y, N = v.1 + y * 2 ^ v.2
theorem put_lt {x n : Nat} {v : Nat × Nat} (h : Lt v) (hx : x < 2 ^ n) : Lt (put x n v) := more_lt h hx
theorem read_put {x n N : Nat} {v : Nat × Nat} (h : Lt v) (hx : x < 2 ^ n) (he : Ext (put x n v) N) : N / 2 ^ v.2 % 2 ^ n = x ∧ Ext v N := by
  obtain ⟨y, hy⟩ := he
  refine ⟨?_, x + y * 2 ^ n, ?_⟩
  · rw [hy]; exact bits_read h hx y
  · rw [hy]
    show v.1 + x * 2 ^ v.2 + y * 2 ^ (v.2 + n) = _
    rw [Nat.add_mul, Nat.pow_add, Nat.add_assoc, Nat.mul_assoc y, Nat.mul_comm (2 ^ n)]
theorem num_put {x n N L : Nat} {v : Nat × Nat} (h : Lt v) (hx : x < 2 ^ n) (he : Ext (put x n v) N) (hL : v.2 + n ≤ L) : num N L v.2 n = .ok (x, v.2 + n) := by
  unfold num
  rw [if_pos hL, (read_put h hx he).1]
theorem fixC_lt (s : Nat) (hs : s ≤ 287) : (fixC s).1 < 2 ^ (fixC s).2 := by
  unfold fixC
  split
  · show 48 + s < 256; omega
  · split
    · show 400 + s - 144 < 512; omega
    · split
      · show s - 256 < 128; omega
      · show 192 + s - 280 < 256; omega
theorem putS_lt {s : Nat} {v : Nat × Nat} (h : Lt v) : Lt (putS s v) := put_lt h (rev_lt _ _)
theorem putC_lt {c n : Nat} {v : Nat × Nat} (h : Lt v) : Lt (putC c n v) := put_lt h (rev_lt _ _)
theorem tab7 : ∀ s, s < 24 → rev 7 (rev 7 s % 2 ^ 7) = s := by decide +kernel
theorem tab8 : ∀ c, c < 256 → rev 7 (rev 8 c % 2 ^ 7) = c / 2 ∧ rev 8 c / 2 ^ 7 = c % 2 := by decide +kernel
theorem tab9 : ∀ c, c < 512 → rev 7 (rev 9 c % 2 ^ 7) = c / 4 ∧ rev 9 c / 2 ^ 7 % 2 ^ 1 = c / 2 % 2 ∧ rev 9 c / 2 ^ 8 = c % 2 := by decide +kernel
theorem tab5 : ∀ c, c < 32 → rev 5 (rev 5 c) = c := by decide +kernel
theorem fixed_read {N L s : Nat} {v : Nat × Nat} (h : Lt v) (hs : s ≤ 285) (he : Ext (putS s v) N) (hL : (putS s v).2 ≤ L) : fixedSignN N L v.2 = .ok (s, (putS s v).2) := by
  obtain ⟨V, T⟩ := v
  have hb := (read_put h (rev_lt _ _) he).1
  have hL' : T + (fixC s).2 ≤ L := hL
  show fixedSignN N L T = .ok (s, T + (fixC s).2)
  simp only at hb
  have c7 : ∀ n, 7 ≤ n → T + n ≤ L → codeN N L T 7 = .ok (rev 7 (N / 2 ^ T % 2 ^ n % 2 ^ 7), T + 7) := fun n hn hl => by
    unfold codeN num
    rw [if_pos (by omega), bits_mod N T 7 n hn]
  unfold fixC at hb hL' ⊢
  by_cases h1 : s ≤ 143
  · rw [if_pos h1] at hb hL' ⊢
    simp only at hb hL' ⊢
    obtain ⟨t1, t2⟩ := tab8 (48 + s) (by omega)
    have hn : num N L (T + 7) 1 = .ok ((48 + s) % 2, T + 8) := by
      unfold num
      rw [if_pos (by omega), ← t2, ← hb, bits_div N T 7 8 (by omega)]
    unfold fixedSignN
    rw [c7 8 (by omega) hL', hb, t1]
    simp only []
    rw [if_neg (by omega), hn]
    simp only []
    rw [if_pos (by omega), show 2 * ((48 + s) / 2) + (48 + s) % 2 - 48 = s by omega]
  · rw [if_neg h1] at hb hL' ⊢
    by_cases h2 : s ≤ 255
    · rw [if_pos h2] at hb hL' ⊢
      simp only at hb hL' ⊢
      obtain ⟨t1, t2, t3⟩ := tab9 (400 + s - 144) (by omega)
      have hn : num N L (T + 7) 1 = .ok ((400 + s - 144) / 2 % 2, T + 8) := by
        unfold num
        rw [if_pos (by omega), ← t2, ← hb, bits_div N T 7 9 (by omega), bits_mod N (T + 7) 1 2 (by omega)]
      have hn2 : num N L (T + 8) 1 = .ok ((400 + s - 144) % 2, T + 9) := by
        unfold num
        rw [if_pos (by omega), ← t3, ← hb, bits_div N T 8 9 (by omega)]
      unfold fixedSignN
      rw [c7 9 (by omega) hL', hb, t1]
      simp only []
      rw [if_neg (by have : 100 ≤ (400 + s - 144) / 4 := by omega
                     omega), hn]
      simp only []
      have e1 : 2 * ((400 + s - 144) / 4) + (400 + s - 144) / 2 % 2 = (400 + s - 144) / 2 := by
        rw [show (400 + s - 144) / 4 = (400 + s - 144) / 2 / 2 from (Nat.div_div_eq_div_mul _ 2 2).symm]
        omega
      rw [e1, if_neg (by omega), if_neg (by omega), hn2]
      simp only []
      rw [show 144 + (2 * ((400 + s - 144) / 2) + (400 + s - 144) % 2) - 400 = s by omega]
    · rw [if_neg h2] at hb hL' ⊢
      by_cases h3 : s ≤ 279
      · rw [if_pos h3] at hb hL' ⊢
        simp only at hb hL' ⊢
        have t1 := tab7 (s - 256) (by omega)
        unfold fixedSignN
        rw [c7 7 (by omega) hL', hb, t1]
        simp only []
        rw [if_pos (by omega), show 256 + (s - 256) = s by omega]
      · rw [if_neg h3] at hb hL' ⊢
        simp only at hb hL' ⊢
        obtain ⟨t1, t2⟩ := tab8 (192 + s - 280) (by omega)
        have hn : num N L (T + 7) 1 = .ok ((192 + s - 280) % 2, T + 8) := by
          unfold num
          rw [if_pos (by omega), ← t2, ← hb, bits_div N T 7 8 (by omega)]
        unfold fixedSignN
        rw [c7 8 (by omega) hL', hb, t1]
        simp only []
        rw [if_neg (by omega), hn]
        simp only []
        rw [if_neg (by omega), if_pos (by omega), show 280 + (2 * ((192 + s - 280) / 2) + (192 + s - 280) % 2) - 192 = s by omega]
theorem fdist_read {N L s : Nat} {v : Nat × Nat} (h : Lt v) (hs : s < 32) (he : Ext (putC s 5 v) N) (hL : v.2 + 5 ≤ L) : fixedDistN N L v.2 = .ok (s, v.2 + 5) := by
  have hb := num_put h (rev_lt 5 s) he hL
  unfold fixedDistN codeN
  rw [hb]
  simp only []
  rw [tab5 s hs]
/-! ### Bits as text -/
/-- A text of bits, put behind what there is. -/
def pv : List Int → Nat × Nat → Nat × Nat
  | [], v => v
  | c :: t, v => pv t (put (if c = 49 then 1 else 0) 1 v)
theorem pv_append : ∀ (s t : List Int) (v : Nat × Nat), pv (s ++ t) v = pv t (pv s v)
  | [], t, v => rfl
  | c :: s, t, v => by rw [List.cons_append, pv, pv, pv_append s t]
theorem pv_len : ∀ (s : List Int) (v : Nat × Nat), (pv s v).2 = v.2 + s.length
  | [], v => rfl
  | c :: s, v => by rw [pv, pv_len s, List.length_cons]; show v.2 + 1 + s.length = _; omega
theorem pv_txt : ∀ (n c : Nat) (v : Nat × Nat), pv (txt n c) v = putC c n v
  | 0, c, v => by
    show v = put (rev 0 c) 0 v
    unfold put rev
    simp
  | n + 1, c, v => by
    rw [txt, pv_append, pv_txt n (c / 2) v, pv, pv]
    have h2 : (if ((48 + c % 2 : Nat) : Int) = 49 then 1 else 0) = c % 2 := by
      rcases Nat.mod_two_eq_zero_or_one c with h | h
      · rw [h]; rfl
      · rw [h]; rfl
    rw [h2]
    unfold putC put
    rw [rev]
    simp only [Prod.mk.injEq]
    refine ⟨?_, by omega⟩
    rw [Nat.add_mul, Nat.pow_add, Nat.mul_comm (2 ^ v.2), Nat.mul_assoc]
    omega
theorem pv_lt : ∀ (s : List Int) (v : Nat × Nat), Lt v → Lt (pv s v)
  | [], v, h => h
  | c :: s, v, h => pv_lt s _ (put_lt h (by split <;> decide))
theorem fixed_code : ∀ s, s < 288 → (codesT fixedLs).getD s (0, 0) = ((fixC s).2, (fixC s).1) := by
  intro s hs
  rw [codes_get (roomy_of (goodN_iff.1 fixedLs_good).1) fixedLs_15 s (by rw [fixedLs_len]; exact hs)]
  have h : ∀ s, s < 288 → (if 1 ≤ fixedLs.getD s 0 then (fixedLs.getD s 0, firstOf fixedLs (fixedLs.getD s 0) + (fixedLs.take s).count (fixedLs.getD s 0)) else (0, 0)) = ((fixC s).2, (fixC s).1) := by decide +kernel
  exact h s hs
/-! ### What is read -/
theorem bindE_ok {α β : Type} (x : α) (f : α → Except Nat β) : bindE (.ok x) f = f x := rfl
def putsV (t : List Int) (v : Nat × Nat) : Nat × Nat := t.foldl (fun v b => putS b.toNat v) v
theorem putsV_lt : ∀ (t : List Int) (v : Nat × Nat), Lt v → Lt (putsV t v)
  | [], v, h => h
  | c :: t, v, h => putsV_lt t _ (putS_lt h)
theorem putsV_ge : ∀ (t : List Int) (v : Nat × Nat), v.2 ≤ (putsV t v).2
  | [], v => Nat.le_refl _
  | c :: t, v => by
    have := putsV_ge t (putS c.toNat v)
    have h : v.2 ≤ (putS c.toNat v).2 := by show v.2 ≤ v.2 + _; omega
    exact Nat.le_trans h this
theorem ext_down {x n N : Nat} {v : Nat × Nat} (h : Lt v) (hx : x < 2 ^ n) (he : Ext (put x n v) N) : Ext v N := (read_put h hx he).2
theorem putsV_ext : ∀ (t : List Int) (v : Nat × Nat) (N : Nat), Lt v → Ext (putsV t v) N → Ext v N
  | [], v, N, h, he => he
  | c :: t, v, N, h, he => ext_down h (rev_lt _ _) (putsV_ext t _ N (putS_lt h) he)
section
variable {N L most : Nat}
theorem read_bytes : ∀ (t : List Int), (∀ x ∈ t, 0 ≤ x ∧ x ≤ 255) → ∀ (v : Nat × Nat) (made : List Int), Lt v → Ext (putsV t v) N → (putsV t v).2 ≤ L → made.length + t.length ≤ most →
    signsN N L most (fixedSignN N L) (fixedDistN N L) v.2 made = signsN N L most (fixedSignN N L) (fixedDistN N L) (putsV t v).2 (made ++ t)
  | [], _, v, made, h, he, hL, hm => by rw [List.append_nil]; rfl
  | c :: t, hr, v, made, h, he, hL, hm => by
    have hc := hr c (by simp)
    have he2 := putsV_ext t (putS c.toNat v) N (putS_lt h) he
    have hL2 : (putS c.toNat v).2 ≤ L := Nat.le_trans (putsV_ge t _) hL
    have hv : v.2 ≤ L := by
      have h1 : v.2 ≤ (putS c.toNat v).2 := by show v.2 ≤ v.2 + _; omega
      omega
    rw [List.length_cons] at hm
    rw [signsN_step (adv_fixedSign N L) (adv_fixedDist N L) v.2 made hv, step_bind, fixed_read h (by omega) he2 hL2]
    show rest1 _ _ _ _ _ _ (c.toNat, _) = _
    rw [rest1, if_pos (by show c.toNat < 256; omega)]
    unfold giveN
    rw [if_neg (by omega)]
    show signsN N L most _ _ (putS c.toNat v).2 (made ++ [((c.toNat : Nat) : Int)]) = _
    rw [Int.toNat_of_nonneg hc.1, read_bytes t (fun x hx => hr x (by simp [hx])) (putS c.toNat v) _ (putS_lt h) he hL (by rw [List.length_append, List.length_singleton]; omega), List.append_assoc]
    rfl
theorem read_end {v : Nat × Nat} {made : List Int} (h : Lt v) (he : Ext (putS 256 v) N) (hL : (putS 256 v).2 ≤ L) : signsN N L most (fixedSignN N L) (fixedDistN N L) v.2 made = .ok ((putS 256 v).2, made) := by
  have hv : v.2 ≤ L := by
    have h1 : v.2 ≤ (putS 256 v).2 := by show v.2 ≤ v.2 + _; omega
    omega
  rw [signsN_step (adv_fixedSign N L) (adv_fixedDist N L) v.2 made hv, step_bind, fixed_read h (by omega) he hL]
  show rest1 _ _ _ _ _ _ (256, _) = _
  rw [rest1, if_neg (by show ¬ 256 < 256; omega), if_pos rfl]
/-- So many bytes again, d back. -/
def agL (d : Nat) : Nat → List Int → List Int
  | 0, m => m
  | k + 1, m => agL d k (m ++ [m[m.length - d]?.getD 0])
theorem agL_len (d : Nat) : ∀ k m, (agL d k m).length = m.length + k
  | 0, m => rfl
  | k + 1, m => by rw [agL, agL_len d k, List.length_append, List.length_singleton]; omega
theorem agL_go (d : Nat) : ∀ k m, m.length + k ≤ most → againGo most d k m = .ok (agL d k m)
  | 0, m, h => rfl
  | k + 1, m, h => by
    rw [againGo_ok _ _ _ _ (by omega), agL]
    exact agL_go d k _ (by rw [List.length_append, List.length_singleton]; omega)
theorem read_again {v : Nat × Nat} {made : List Int} {d : Nat} (h : Lt v) (hd : d < 4) (hm : d + 1 ≤ made.length) (hmost : made.length + 10 ≤ most) (he : Ext (putC d 5 (putS 264 v)) N) (hL : (putC d 5 (putS 264 v)).2 ≤ L) :
    signsN N L most (fixedSignN N L) (fixedDistN N L) v.2 made = signsN N L most (fixedSignN N L) (fixedDistN N L) (putC d 5 (putS 264 v)).2 (agL (d + 1) 10 made) := by
  have hlt := putS_lt (s := 264) h
  have he1 := ext_down hlt (rev_lt 5 d) he
  have h1 : v.2 ≤ (putS 264 v).2 := by show v.2 ≤ v.2 + _; omega
  have h2 : (putC d 5 (putS 264 v)).2 = (putS 264 v).2 + 5 := rfl
  rw [signsN_step (adv_fixedSign N L) (adv_fixedDist N L) v.2 made (by omega), step_bind, fixed_read h (by omega) he1 (by omega)]
  rw [bindE_ok, rest1]
  simp only []
  rw [if_neg (by omega), if_neg (by omega), if_neg (by omega)]
  have e1 : lengthN N L (putS 264 v).2 264 = .ok (10, (putS 264 v).2) := by unfold lengthN; rw [if_pos (by omega)]
  rw [e1, bindE_ok, rest2]
  simp only []
  rw [fdist_read hlt (by omega) he (by omega), bindE_ok, rest3]
  simp only []
  have e2 : distN N L ((putS 264 v).2 + 5) d = .ok (d + 1, (putS 264 v).2 + 5) := by unfold distN; rw [if_neg (by omega), if_pos (by omega)]
  rw [e2, bindE_ok, rest4]
  simp only []
  have e3 : againN most made 10 (d + 1) = .ok (agL (d + 1) 10 made) := by
    unfold againN
    rw [if_neg (by omega), agL_go _ _ _ hmost]
  rw [e3, bindE_ok, h2]
end
/-- Bits that end a stream, as bytes. -/
theorem raw_of_bits {V : Nat × Nat} {most : Nat} {want : List Int} (hlt : Lt V) (hex : Ext (3, 3) V.1) (h3 : 3 ≤ V.2)
    (hr : signsN V.1 (8 * ((V.2 + 7) / 8)) most (fixedSignN V.1 (8 * ((V.2 + 7) / 8))) (fixedDistN V.1 (8 * ((V.2 + 7) / 8))) 3 [] = .ok (V.2, want)) :
    rawOf (bytesN V.1 ((V.2 + 7) / 8)) most = .ok (V.2, want) := by
  have hlen := bytesN_len V.1 ((V.2 + 7) / 8)
  have hstream : streamN (bytesN V.1 ((V.2 + 7) / 8)) = V.1 := by
    rw [stream_bytesN, Nat.mod_eq_of_lt]
    exact Nat.lt_of_lt_of_le hlt (Nat.pow_le_pow_right (by omega) (by omega))
  obtain ⟨y, hy⟩ := hex
  have hy' : V.1 = 3 + y * 8 := hy
  unfold rawOf
  rw [hstream, rawGo, hlen]
  have n1 : num V.1 (8 * ((V.2 + 7) / 8)) 0 1 = .ok (1, 1) := by
    unfold num
    rw [if_pos (by omega), Nat.pow_zero, Nat.div_one, hy', show (3 + y * 8) % 2 ^ 1 = 1 by omega]
  have n2 : num V.1 (8 * ((V.2 + 7) / 8)) 1 2 = .ok (1, 3) := by
    unfold num
    rw [if_pos (by omega), hy', show (3 + y * 8) / 2 ^ 1 % 2 ^ 2 = 1 by omega]
  rw [n1]
  simp only []
  rw [n2]
  simp only []
  have hb1 : blockN (bytesN V.1 ((V.2 + 7) / 8)) V.1 (8 * ((V.2 + 7) / 8)) most 1 3 [] = .ok (V.2, want) := by
    unfold blockN
    rw [if_neg (by omega), if_pos rfl]
    exact hr
  rw [hb1]
  rfl
end Go.Proofs.Ytmdgpabmknigmaa
