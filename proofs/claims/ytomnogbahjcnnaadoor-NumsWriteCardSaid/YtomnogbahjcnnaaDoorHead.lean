/- A kind and a size: the walk. -/
import Derived.Test.YtomnogbahjcnnaaDoorLeb
namespace Go.Proofs.YtomnogbahjcnnaaDoor
open Go.RowKit Plain
set_option linter.unusedVariables false
namespace Plain
def headBytes (kind size : Nat) : List Int := if size < 16 then [((16 * kind + size : Nat) : Int)] else ((16 * kind + size % 16 + 128 : Nat) : Int) :: lebBytes (size / 16)
end Plain
theorem and_15 (m : Nat) (hm : m ≤ 4611686018427387903) : bits .and .i64 (m : Int) 15 = ((m % 16 : Nat) : Int) := by
  show IntKind.i64.wrap ((BitVec.ofInt 64 _ &&& BitVec.ofInt 64 _ : BitVec 64).toNat : Int) = _
  rw [BitVec.toNat_and, BitVec.toNat_ofInt, BitVec.toNat_ofInt]
  have e1 : (((m : Nat) : Int) % ((2 ^ 64 : Nat) : Int)).toNat = m := by omega
  have e2 : ((15 : Int) % ((2 ^ 64 : Nat) : Int)).toNat = 2 ^ 4 - 1 := by decide
  rw [e1, e2, Nat.and_two_pow_sub_one_eq_mod, IntKind.wrap_i64]
  omega
theorem or_nibble : ∀ k : Nat, k < 8 → ∀ m : Nat, m < 16 → bits .or .i64 ((16 * k : Nat) : Int) (m : Int) = ((16 * k + m : Nat) : Int) := by decide +kernel
theorem or_128b : ∀ m : Nat, m < 128 → bits .or .u8 (m : Int) 128 = ((m + 128 : Nat) : Int) := by decide +kernel
theorem times_rule (k p : Nat) (h : 16 * k = p) : ∀ k' : Int, k' = (k : Int) → k' * 16 = (p : Int) := fun k' hk => by rw [hk, ← h]; simp; omega
theorem div_rule16 (n q : Nat) (h : n / 16 = q) : ∀ n' : Int, n' = (n : Int) → n' / 16 = (q : Int) := fun n' hn => by rw [hn, ← h]; simp
theorem wrap8_rule (x : Nat) (hx : x < 256) : ∀ x' : Int, x' = (x : Int) → IntKind.u8.wrap x' = (x : Int) := fun x' h => by rw [h, IntKind.wrap_u8]; omega
theorem own_lower {w : World} {base base' : Nat} {v : Value} {n : Nat} {xs : List Int} (h : Own w base v n xs) (hb : base' ≤ base) : Own w base' v n xs := by
  obtain ⟨h1, h2 | ⟨g, cap, cur, h3, h4, h5⟩⟩ := h
  · exact ⟨h1, .inl h2⟩
  · exact ⟨h1, .inr ⟨g, cap, cur, h3, Nat.le_trans hb h4, h5⟩⟩
theorem range_of_mem {xs : List Int} (h : ∀ x ∈ xs, 0 ≤ x ∧ x ≤ 255) (j : Nat) : 0 ≤ xs[j]?.getD 0 ∧ xs[j]?.getD 0 ≤ 255 := by
  by_cases hj : j < xs.length
  · rw [List.getElem?_eq_getElem hj]; exact h _ (List.getElem_mem hj)
  · rw [List.getElem?_eq_none (by omega)]; simp
theorem nil_of_own {w : World} {base : Nat} {a : Option Addr} {n c : Nat} {xs : List Int} (h : Own w base (.slice a n c) n xs) : a = none → c = 0 := by
  obtain ⟨a', c', e, -, h2, -⟩ := h.shape
  simp only [Value.slice.injEq, true_and] at e
  obtain ⟨rfl, rfl⟩ := e
  exact h2
theorem own_len {w : World} {base : Nat} {a : Option Addr} {n c : Nat} {xs : List Int} (h : Own w base (.slice a n c) n xs) : xs.length = n := by
  have := h.1
  rw [List.length_map] at this
  omega
set_option maxRecDepth 100000 in
set_option maxHeartbeats 2000000 in
theorem head_any (kind size : Nat) (hk : kind ≤ 7) (hs : size ≤ 4611686018427387903) (w : World) :
    Calls Tryd.prog 15 #[.int .i64 (kind : Int), .int .i64 (size : Int)] w fun e w' => (∃ a k c, e = .returned (.slice a k c) ∧ Own w' w.heap.size (.slice a k c) k (headBytes kind size)) ∧ Below w.heap.size w w' := by
  have k1 : ¬ (kind : Int) < 0 := by omega
  have k2 : ¬ (7 : Int) < kind := by omega
  have s1 : ¬ (size : Int) < 0 := by omega
  have s2 : ¬ (4611686018427387903 : Int) < size := by omega
  have ha := and_15 size hs
  obtain ⟨m, hm⟩ : ∃ m, size % 16 = m := ⟨_, rfl⟩
  have hm5 : m < 16 := by omega
  rw [hm] at ha
  have ho := or_nibble kind (by omega) m hm5
  obtain ⟨p, hp⟩ : ∃ p, 16 * kind = p := ⟨_, rfl⟩
  have hp5 : p ≤ 112 := by omega
  have htr := times_rule kind p hp
  rw [hp] at ho
  obtain ⟨f, hf⟩ : ∃ f, p + m = f := ⟨_, rfl⟩
  have hf5 : f < 128 := by omega
  rw [hf] at ho
  have hw8 := wrap8_rule f (by omega)
  have ho8 := or_128b f hf5
  obtain ⟨q, hq⟩ : ∃ q, size / 16 = q := ⟨_, rfl⟩
  have hq5 : q ≤ 4611686018427387903 := by omega
  have hdr := div_rule16 size q hq
  have HH : Hid (headBytes kind size = if size < 16 then [(f : Int)] else ((f + 128 : Nat) : Int) :: lebBytes q) := by
    show _ = _
    unfold headBytes
    rw [hm, hp, hf, hq]
    split
    · rw [show p + size = f by omega]
    · rfl
  obtain ⟨g, hg⟩ : ∃ g, f + 128 = g := ⟨_, rfl⟩
  rw [hg] at ho8 HH
  have hg5 : g < 256 := by omega
  clear hm hp hf hq hg
  go_enter Tryd.func15, Tryd.ntmps15
  by_cases h16 : size < 16
  · have h16i : (size : Int) < 16 := by omega
    go_wp2_with fail
    go_ret
    rw [HH.out, if_pos h16]
    exact ⟨⟨_, _, _, rfl, own_lit1 w _⟩, (Below.refl _ _).alloc (Nat.le_refl _) _⟩
  · have h16i : ¬ (size : Int) < 16 := by omega
    go_wp2_with fail
    refine (leb_any q hq5 _).mono ?_
    rintro e w2 ⟨⟨a, k, c, rfl, ho2⟩, hb2⟩
    have HB1 : Hid (Below w.heap.size w (w.alloc (.cells #[.int .u8 (g : Int)] 5))) := (Below.refl _ _).alloc (Nat.le_refl _) _
    have HB2 : Hid (Below w.heap.size w w2) := HB1.out.trans (hb2.mono HB1.out.size)
    have hk10 : k ≤ 10 := by have h1 := own_len ho2; have h2 := lebF_len 10 q; unfold lebBytes at h1; omega
    have HO1 : Hid (Own w2 w.heap.size (.slice (some ⟨w.heap.size, 0, none⟩) 1 1) 1 [(g : Int)]) := (own_lit1 w (g : Int)).below hb2
    have HY : Hid (Bytes w2 a k (lebBytes q)) := ho2.bytes (range_of_mem (lebF_bytes 10 q))
    have HN : Hid (a = none → c = 0) := nil_of_own ho2
    clear ho2 hb2
    go_wp2_with (
      at_builtin
      refine wpList_append_bytes rfl _ _ rfl w.heap.size _ 1 [(g : Int)] rfl HO1.out a k c (lebBytes q) rfl HY.out HN.out (by omega) HB2.out.size ?_
      intro v' w4 hown4 hg4
      have HW4 : Hid (Below w.heap.size w w4) := HB2.out.trans (HO1.out.kept HB2.out.size hg4)
      have HO4 : Hid (Own w4 w.heap.size v' (1 + k) ((g : Int) :: lebBytes q)) := hown4
      obtain ⟨a4, c4, e4, -, -, -⟩ := hown4.shape
      subst e4
      clear hown4 hg4)
    go_ret
    rw [HH.out, if_neg h16]
    exact ⟨⟨_, _, _, rfl, HO4.out⟩, HW4.out⟩
end Go.Proofs.YtomnogbahjcnnaaDoor
