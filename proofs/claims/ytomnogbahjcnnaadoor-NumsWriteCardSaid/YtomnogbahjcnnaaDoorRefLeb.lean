/- The document's sevens: the walks; numbers that may not be. -/
import Derived.Test.YtomnogbahjcnnaaDoorFromBe
import Derived.Test.YtomnogbahjcnnaaDoorGrow
namespace Go.Proofs.YtomnogbahjcnnaaDoor
open Go.RowKit Plain
set_option linter.unusedVariables false
theorem div_rule128i (n q : Nat) (h : n / 128 = q) : ∀ n' : Int, n' = (n : Int) → n' / 128 = (q : Int) := fun n' hn => by rw [hn, ← h]; simp
theorem mod_rule128 (n q : Nat) (h : n % 128 = q) : ∀ n' : Int, n' = (n : Int) → n' % 128 = (q : Int) := fun n' hn => by rw [hn, ← h]; simp
theorem add_rule128 (d x : Nat) (h : d + 128 = x) : ∀ d' : Int, d' = (d : Int) → d' + 128 = (x : Int) := fun d' hd => by rw [hd, ← h]; simp
theorem leb_out (n : Int) (h : n < 0 ∨ 4611686018427387903 < n) (w : World) : Calls Tryd.prog 11 #[.int .i64 n] w fun e w' => e = .returned (.slice none 0 0) ∧ Below w.heap.size w w' := by
  go_enter Tryd.func11, Tryd.ntmps11
  rcases h with h | h
  · go_wp2_with fail
    go_ret
    exact ⟨rfl, by first | exact Below.refl _ _ | exact (Below.refl _ _).alloc (Nat.le_refl _) _⟩
  · have h0 : ¬ n < 0 := by omega
    go_wp2_with fail
    go_ret
    exact ⟨rfl, by first | exact Below.refl _ _ | exact (Below.refl _ _).alloc (Nat.le_refl _) _⟩
theorem refLeb_out (n : Int) (h : n < 0 ∨ 4611686018427387903 < n) (w : World) : Calls Tryd.prog 12 #[.int .i64 n] w fun e w' => e = .returned (.slice none 0 0) ∧ Below w.heap.size w w' := by
  go_enter Tryd.func12, Tryd.ntmps12
  rcases h with h | h
  · go_wp2_with fail
    go_ret
    exact ⟨rfl, Below.refl _ _⟩
  · have h0 : ¬ n < 0 := by omega
    have h1 : (4611686018427387904 : Int) ≤ n := by omega
    go_wp2_with fail
    go_ret
    exact ⟨rfl, Below.refl _ _⟩
set_option maxRecDepth 100000 in
set_option maxHeartbeats 4000000 in
theorem refLeb_fuel : ∀ (f n : Nat), 0 < f → n < 128 ^ f → n ≤ 4611686018427387903 → f ≤ 10 → ∀ w : World,
    Calls Tryd.prog 12 #[.int .i64 (n : Int)] w fun e w' => (∃ a k c, e = .returned (.slice a k c) ∧ Own w' w.heap.size (.slice a k c) k (lebF f n)) ∧ Below w.heap.size w w'
  | 0, n, h0, hn, hm, hf, w => by omega
  | f + 1, n, h0, hn, hm, hf, w => by
    have hn0 : ¬ (n : Int) < 0 := by omega
    have hn1 : ¬ (4611686018427387904 : Int) ≤ n := by omega
    by_cases hsm : n < 128
    · have hsi : (n : Int) < 128 := by omega
      have HE : Hid (lebF (f + 1) n = [(n : Int)]) := by show _ = _; rw [lebF, if_pos hsm]
      clear hn
      go_enter Tryd.func12, Tryd.ntmps12
      go_wp2_with fail
      go_ret
      rw [HE.out]
      exact ⟨⟨_, 1, 1, rfl, own_lit1 w _⟩, (Below.refl _ _).alloc (Nat.le_refl _) _⟩
    · have hsi : ¬ (n : Int) < 128 := by omega
      obtain ⟨q, hq⟩ : ∃ q, n / 128 = q := ⟨_, rfl⟩
      obtain ⟨d, hd⟩ : ∃ d, n % 128 = d := ⟨_, rfl⟩
      obtain ⟨x, hx⟩ : ∃ x, d + 128 = x := ⟨_, rfl⟩
      have HE : Hid (lebF (f + 1) n = (x : Int) :: lebF f q) := by
        show _ = _; rw [lebF, if_neg hsm, hq, hd, hx]
      have hf0 : 0 < f := by
        rcases Nat.eq_zero_or_pos f with rfl | h
        · simp at hn; omega
        · exact h
      have hqn : q < 128 ^ f := by rw [← hq, Nat.div_lt_iff_lt_mul (by omega)]; rwa [Nat.pow_succ] at hn
      have r1 := div_rule128i n q hq
      have r2 := mod_rule128 n d hd
      have r3 := add_rule128 d x hx
      have hd8 : d < 128 := by omega
      have hx8 : x ≤ 255 := by omega
      have hqm : q ≤ 4611686018427387903 := by omega
      have r4 := wrap_rule q (by omega)
      have r5 := wrap_rule d (by omega)
      have r6 := wrap_rule x (by omega)
      have IH := fun W => refLeb_fuel f q hf0 hqn hqm (by omega) W
      have HIH : Hid (∀ W : World, Calls Tryd.prog 12 #[.int .i64 (q : Int)] W fun e w' => (∃ a k c, e = .returned (.slice a k c) ∧ Own w' W.heap.size (.slice a k c) k (lebF f q)) ∧ Below W.heap.size W w') := IH
      have HLL : Hid ((lebF f q).length ≤ f) := lebF_len f q
      have HLB : Hid (∀ y ∈ lebF f q, 0 ≤ y ∧ y ≤ 255) := lebF_bytes f q
      clear hn hq hd hx hqn IH
      go_enter Tryd.func12, Tryd.ntmps12
      go_wp2_with fail
      refine (HIH.out _).mono ?_
      rintro e w2 ⟨⟨a, k, c, rfl, ho⟩, hb⟩
      have HB : Hid (Below w.heap.size w w2) := ((Below.refl _ _).alloc (Nat.le_refl _) _).trans (hb.mono (by simp))
      have HO1 : Hid (Own w2 w.heap.size (.slice (some ⟨w.heap.size, 0, none⟩) 1 1) 1 [(x : Int)]) := (own_lit1 w (x : Int)).below hb
      have HBY : Hid (Bytes w2 a k (lebF f q)) := ho.bytes (range_of_mem HLB.out)
      have HNI : Hid (a = none → c = 0) := nil_of_own ho
      have hk : k ≤ 10 := by have := own_len ho; have := HLL.out; omega
      clear ho hb
      have tok : True := trivial
      go_wp2_with (
        have _t := tok
        at_builtin
        refine wpList_append_bytes rfl _ _ rfl w.heap.size _ 1 [(x : Int)] rfl HO1.out a k c (lebF f q) rfl HBY.out HNI.out (by omega) HB.out.size ?_
        intro v3 w3 ho3 hg3
        have HB3 : Hid (Below w.heap.size w w3) := HB.out.trans (HO1.out.kept HB.out.size hg3)
        have HO3 : Hid (Own w3 w.heap.size v3 (1 + k) ((x : Int) :: lebF f q)) := ho3
        obtain ⟨a3, c3, e3, -, -, -⟩ := ho3.shape
        subst e3
        clear ho3 hg3 tok)
      go_ret
      rw [HE.out]
      exact ⟨⟨a3, 1 + k, c3, rfl, HO3.out⟩, HB3.out⟩
theorem p128_10b : (128 : Nat) ^ 10 = 1180591620717411303424 := by decide
theorem refLeb_any (n : Nat) (hn : n ≤ 4611686018427387903) (w : World) :
    Calls Tryd.prog 12 #[.int .i64 (n : Int)] w fun e w' => (∃ a k c, e = .returned (.slice a k c) ∧ Own w' w.heap.size (.slice a k c) k (lebBytes n)) ∧ Below w.heap.size w w' :=
  refLeb_fuel 10 n (by omega) (by have := p128_10b; omega) hn (Nat.le_refl _) w
end Go.Proofs.YtomnogbahjcnnaaDoor
