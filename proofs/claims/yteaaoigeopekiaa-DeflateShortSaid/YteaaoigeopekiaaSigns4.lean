/- Signs, lengths and distances: what is put. -/
import Derived.Test.YteaaoigeopekiaaLen
namespace Go.Proofs.Yteaaoigeopekiaa
open Go.RowKit Plain
set_option linter.unusedVariables false
namespace Plain
/-- A sign's code, and how many bits it has. -/
def fixC (s : Nat) : Nat × Nat := if s ≤ 143 then (48 + s, 8) else if s ≤ 255 then (400 + s - 144, 9) else if s ≤ 279 then (s - 256, 7) else (192 + s - 280, 8)
/-- n bits more. -/
def put (x n : Nat) (v : Nat × Nat) : Nat × Nat := (v.1 + x * 2 ^ v.2, v.2 + n)
def putC (c n : Nat) (v : Nat × Nat) : Nat × Nat := put (rev n c) n v
def putS (s : Nat) (v : Nat × Nat) : Nat × Nat := putC (fixC s).1 (fixC s).2 v
def putLen (n : Nat) (v : Nat × Nat) : Nat × Nat :=
  if n = 258 then putS 285 v else if n ≤ 10 then putS (254 + n) v
  else put ((n - 3) % 2 ^ (bl (n - 3) - 3)) (bl (n - 3) - 3) (putS (261 + 4 * (bl (n - 3) - 3) + (n - 3) / 2 ^ (bl (n - 3) - 3) % 4) v)
def putDist (d : Nat) (v : Nat × Nat) : Nat × Nat :=
  if d - 1 ≤ 3 then putC (d - 1) 5 v
  else put ((d - 1) % 2 ^ (bl (d - 1) - 2)) (bl (d - 1) - 2) (putC (2 + 2 * (bl (d - 1) - 2) + (d - 1) / 2 ^ (bl (d - 1) - 2) % 2) 5 v)
theorem bl_pos {x : Nat} {k : Nat} (h : 2 ^ k ≤ x) : k + 1 ≤ bl x := by
  have h0 : x ≠ 0 := by have := Nat.two_pow_pos k; omega
  unfold bl
  rw [if_neg h0]
  have := (Nat.le_log2 h0).2 h
  omega
theorem bl_div {x : Nat} (j : Nat) (h0 : x ≠ 0) (hj : j ≤ bl x) (h1 : 1 ≤ j) : 2 ^ (j - 1) ≤ x / 2 ^ (bl x - j) ∧ x / 2 ^ (bl x - j) < 2 ^ j := by
  unfold bl at *
  rw [if_neg h0] at *
  constructor
  · rw [Nat.le_div_iff_mul_le (Nat.two_pow_pos _), ← Nat.pow_add, show j - 1 + (x.log2 + 1 - j) = x.log2 by omega]
    exact Nat.log2_self_le h0
  · rw [Nat.div_lt_iff_lt_mul (Nat.two_pow_pos _), ← Nat.pow_add, show j + (x.log2 + 1 - j) = x.log2 + 1 by omega]
    exact Nat.lt_log2_self
end Plain
/-- The writer has put what v is. -/
def WP (w : World) (base B : Nat) (v : Nat × Nat) : Prop := Wrt w base B v.1 v.2
theorem WP.below {w w' : World} {base B : Nat} {v : Nat × Nat} (H : WP w base B v) (hb : Below w.heap.size w w') : WP w' base B v := Wrt.below H hb
theorem and_low3 (x : Nat) (k : Nat) (hk : k ≤ 20) : bits .and .i64 (x : Int) ((2 : Int) ^ k - 1) = ((x % 2 ^ k : Nat) : Int) ∨ 4294967296 ≤ x := by
  by_cases hx : 4294967296 ≤ x
  · exact .inr hx
  · refine .inl ?_
    have hp : 2 ^ k ≤ 1048576 := by have := Nat.pow_le_pow_right (n := 2) (by omega) hk; simpa using this
    have hp0 := Nat.two_pow_pos k
    have e : (2 : Int) ^ k - 1 = ((2 ^ k - 1 : Nat) : Int) := by
      have : (2 : Int) ^ k = ((2 ^ k : Nat) : Int) := by simp
      omega
    rw [e]
    show IntKind.i64.wrap ((BitVec.ofInt 64 _ &&& BitVec.ofInt 64 _ : BitVec 64).toNat : Int) = _
    rw [BitVec.toNat_and, BitVec.toNat_ofInt, BitVec.toNat_ofInt]
    have e1 : (((x : Nat) : Int) % ((2 ^ 64 : Nat) : Int)).toNat = x := by omega
    have e2 : (((2 ^ k - 1 : Nat) : Int) % ((2 ^ 64 : Nat) : Int)).toNat = 2 ^ k - 1 := by omega
    rw [e1, e2, Nat.and_two_pow_sub_one_eq_mod, IntKind.wrap_i64]
    have := Nat.mod_lt x hp0
    omega
set_option maxRecDepth 100000 in
set_option maxHeartbeats 4000000 in
theorem wsign_any (base B : Nat) (v : Nat × Nat) (s : Nat) (w : World) (H : WP w base B v) (hs : s ≤ 287) (hT : v.2 ≤ 1000000) :
    Calls Try.prog 32 #[.pointer (some ⟨B, 0, none⟩), .int .i64 (s : Int)] w fun e w' => e = .returned (.tuple #[]) ∧ WP w' base B (putS s v) ∧ FrW B base w w' := by
  obtain ⟨V, T⟩ := v
  have HW : Hid (Wrt w base B V T) := H
  simp only at hT
  clear H
  by_cases h0 : s ≤ 143
  · obtain ⟨c, hc⟩ : ∃ c, 48 + s = c := ⟨_, rfl⟩
    have HP : Hid (putS s (V, T) = (V + rev 8 c * 2 ^ T, T + 8)) := by show _ = _; unfold putS fixC; rw [if_pos (by omega)]; subst hc; rfl
    have ci : (48 : Int) + (s : Int) = (c : Int) := by omega
    have p0 : (s : Int) ≤ 143 := by omega
    have hcall := wcode_8 base B V T c w HW.out (by omega) hT
    have HC := Lib.hid hcall
    clear hcall hc HW
    go_enter Try.func32, Try.ntmps32
    go_wp2_with fail
    refine HC.out.mono ?_
    rintro e w2 ⟨rfl, h2, hb2⟩
    have H2 := Lib.hid h2
    have HB2 := Lib.hid hb2
    clear h2 hb2 HC
    go_wp2_with fail
    go_end0
    refine ⟨rfl, ?_, HB2.out⟩
    rw [HP.out]
    exact H2.out
  · skip
    by_cases h1 : s ≤ 255
    · obtain ⟨c, hc⟩ : ∃ c, 400 + s - 144 = c := ⟨_, rfl⟩
      have HP : Hid (putS s (V, T) = (V + rev 9 c * 2 ^ T, T + 9)) := by show _ = _; unfold putS fixC; rw [if_neg (by omega), if_pos (by omega)]; subst hc; rfl
      have ci : (400 : Int) + (s : Int) - 144 = (c : Int) := by omega
      have n0 : ¬ (s : Int) ≤ 143 := by omega
      have p0 : (s : Int) ≤ 255 := by omega
      have hcall := wcode_9 base B V T c w HW.out (by omega) hT
      have HC := Lib.hid hcall
      clear hcall hc HW
      go_enter Try.func32, Try.ntmps32
      go_wp2_with fail
      refine HC.out.mono ?_
      rintro e w2 ⟨rfl, h2, hb2⟩
      have H2 := Lib.hid h2
      have HB2 := Lib.hid hb2
      clear h2 hb2 HC
      go_wp2_with fail
      go_end0
      refine ⟨rfl, ?_, HB2.out⟩
      rw [HP.out]
      exact H2.out
    · skip
      by_cases h2 : s ≤ 279
      · obtain ⟨c, hc⟩ : ∃ c, s - 256 = c := ⟨_, rfl⟩
        have HP : Hid (putS s (V, T) = (V + rev 7 c * 2 ^ T, T + 7)) := by show _ = _; unfold putS fixC; rw [if_neg (by omega), if_neg (by omega), if_pos (by omega)]; subst hc; rfl
        have ci : (s : Int) - 256 = (c : Int) := by omega
        have n0 : ¬ (s : Int) ≤ 143 := by omega
        have n1 : ¬ (s : Int) ≤ 255 := by omega
        have p0 : (s : Int) ≤ 279 := by omega
        have hcall := wcode_7 base B V T c w HW.out (by omega) hT
        have HC := Lib.hid hcall
        clear hcall hc HW
        go_enter Try.func32, Try.ntmps32
        go_wp2_with fail
        refine HC.out.mono ?_
        rintro e w2 ⟨rfl, h2, hb2⟩
        have H2 := Lib.hid h2
        have HB2 := Lib.hid hb2
        clear h2 hb2 HC
        go_wp2_with fail
        go_end0
        refine ⟨rfl, ?_, HB2.out⟩
        rw [HP.out]
        exact H2.out
      · skip
        obtain ⟨c, hc⟩ : ∃ c, 192 + s - 280 = c := ⟨_, rfl⟩
        have HP : Hid (putS s (V, T) = (V + rev 8 c * 2 ^ T, T + 8)) := by show _ = _; unfold putS fixC; rw [if_neg (by omega), if_neg (by omega), if_neg (by omega)]; subst hc; rfl
        have ci : (192 : Int) + (s : Int) - 280 = (c : Int) := by omega
        have n0 : ¬ (s : Int) ≤ 143 := by omega
        have n1 : ¬ (s : Int) ≤ 255 := by omega
        have n2 : ¬ (s : Int) ≤ 279 := by omega
        have hcall := wcode_8 base B V T c w HW.out (by omega) hT
        have HC := Lib.hid hcall
        clear hcall hc HW
        go_enter Try.func32, Try.ntmps32
        go_wp2_with fail
        refine HC.out.mono ?_
        rintro e w2 ⟨rfl, h2, hb2⟩
        have H2 := Lib.hid h2
        have HB2 := Lib.hid hb2
        clear h2 hb2 HC
        go_wp2_with fail
        go_end0
        refine ⟨rfl, ?_, HB2.out⟩
        rw [HP.out]
        exact H2.out
end Go.Proofs.Yteaaoigeopekiaa
