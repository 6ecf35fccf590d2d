/- The document's kinds and sizes: the walks. -/
import Derived.Test.YtomnogbahjcnnaaDoorRefLeb
namespace Go.Proofs.YtomnogbahjcnnaaDoor
open Go.RowKit Plain
set_option linter.unusedVariables false
def badHead (k n : Int) : Prop := k < 0 ∨ 7 < k ∨ n < 0 ∨ 4611686018427387903 < n
theorem head_out (k n : Int) (h : badHead k n) (w : World) : Calls Tryd.prog 15 #[.int .i64 k, .int .i64 n] w fun e w' => e = .returned (.slice none 0 0) ∧ Below w.heap.size w w' := by
  unfold badHead at h
  go_enter Tryd.func15, Tryd.ntmps15
  by_cases h1 : k < 0
  · go_wp2_with fail
    go_ret
    exact ⟨rfl, Below.refl _ _⟩
  by_cases h2 : 7 < k
  · go_wp2_with fail
    go_ret
    exact ⟨rfl, Below.refl _ _⟩
  by_cases h3 : n < 0
  · go_wp2_with fail
    go_ret
    exact ⟨rfl, Below.refl _ _⟩
  have h4 : 4611686018427387903 < n := by omega
  go_wp2_with fail
  go_ret
  exact ⟨rfl, Below.refl _ _⟩
theorem refHead_out (k n : Int) (h : badHead k n) (w : World) : Calls Tryd.prog 16 #[.int .i64 k, .int .i64 n] w fun e w' => e = .returned (.slice none 0 0) ∧ Below w.heap.size w w' := by
  unfold badHead at h
  go_enter Tryd.func16, Tryd.ntmps16
  by_cases h1 : k < 0
  · go_wp2_with fail
    go_ret
    exact ⟨rfl, Below.refl _ _⟩
  by_cases h2 : 7 < k
  · go_wp2_with fail
    go_ret
    exact ⟨rfl, Below.refl _ _⟩
  by_cases h3 : n < 0
  · go_wp2_with fail
    go_ret
    exact ⟨rfl, Below.refl _ _⟩
  have h4 : 4611686018427387904 ≤ n := by omega
  go_wp2_with fail
  go_ret
  exact ⟨rfl, Below.refl _ _⟩
theorem mul_rule16l (k p : Nat) (h : 16 * k = p) : ∀ k' : Int, k' = (k : Int) → 16 * k' = (p : Int) := fun k' hk => by rw [hk, ← h]; simp
theorem mod_rule16 (n q : Nat) (h : n % 16 = q) : ∀ n' : Int, n' = (n : Int) → n' % 16 = (q : Int) := fun n' hn => by rw [hn, ← h]; simp
theorem add_ruleT (p n q : Nat) (h : p + n = q) : ∀ p' n' : Int, p' = (p : Int) → n' = (n : Int) → p' + n' = (q : Int) := fun p' n' hp hn => by rw [hp, hn, ← h]; simp
theorem add_rule128l (p q : Nat) (h : 128 + p = q) : ∀ p' : Int, p' = (p : Int) → 128 + p' = (q : Int) := fun p' hp => by rw [hp, ← h]; simp
set_option maxRecDepth 100000 in
set_option maxHeartbeats 4000000 in
theorem refHead_any (k n : Nat) (hk : k ≤ 7) (hn : n ≤ 4611686018427387903) (w : World) :
    Calls Tryd.prog 16 #[.int .i64 (k : Int), .int .i64 (n : Int)] w fun e w' => (∃ a m c, e = .returned (.slice a m c) ∧ Own w' w.heap.size (.slice a m c) m (headBytes k n)) ∧ Below w.heap.size w w' := by
  have hn0 : ¬ (n : Int) < 0 := by omega
  have hn1 : ¬ (4611686018427387904 : Int) ≤ n := by omega
  have hk0 : ¬ (k : Int) < 0 := by omega
  have hk7 : ¬ (7 : Int) < k := by omega
  obtain ⟨p, hp⟩ : ∃ p, 16 * k = p := ⟨_, rfl⟩
  have r1 := mul_rule16l k p hp
  have r2 := wrap_rule p (by omega)
  by_cases hsm : n < 16
  · have hsi : (n : Int) < 16 := by omega
    obtain ⟨x, hx⟩ : ∃ x, p + n = x := ⟨_, rfl⟩
    have r3 := add_ruleT p n x hx
    have r4 := wrap_rule x (by omega)
    have hx8 : x ≤ 255 := by omega
    have HE : Hid (headBytes k n = [(x : Int)]) := by show _ = _; unfold headBytes; rw [if_pos hsm, hp, hx]
    clear hp hx
    go_enter Tryd.func16, Tryd.ntmps16
    go_wp2_with fail
    go_ret
    rw [HE.out]
    exact ⟨⟨_, 1, 1, rfl, own_lit1 w _⟩, (Below.refl _ _).alloc (Nat.le_refl _) _⟩
  · have hsi : ¬ (n : Int) < 16 := by omega
    obtain ⟨q, hq⟩ : ∃ q, n / 16 = q := ⟨_, rfl⟩
    obtain ⟨d, hd⟩ : ∃ d, n % 16 = d := ⟨_, rfl⟩
    obtain ⟨y, hy⟩ : ∃ y, 128 + p = y := ⟨_, rfl⟩
    obtain ⟨x, hx⟩ : ∃ x, y + d = x := ⟨_, rfl⟩
    have r3 := div_rule16 n q hq
    have r4 := mod_rule16 n d hd
    have r5 := add_rule128l p y hy
    have r6 := add_ruleT y d x hx
    have r7 := wrap_rule q (by omega)
    have r8 := wrap_rule d (by omega)
    have r9 := wrap_rule y (by omega)
    have r10 := wrap_rule x (by omega)
    have hx8 : x ≤ 255 := by omega
    have hqm : q ≤ 4611686018427387903 := by omega
    have HE : Hid (headBytes k n = (x : Int) :: lebBytes q) := by
      show _ = _; unfold headBytes; rw [if_neg hsm, hp, hd, hq, show p + d + 128 = x by omega]
    clear hp hq hd hy hx
    go_enter Tryd.func16, Tryd.ntmps16
    go_wp2_with fail
    refine (refLeb_any q hqm _).mono ?_
    rintro e w2 ⟨⟨a, m, c, rfl, ho⟩, hb⟩
    have HB : Hid (Below w.heap.size w w2) := ((Below.refl _ _).alloc (Nat.le_refl _) _).trans (hb.mono (by simp))
    have HO1 : Hid (Own w2 w.heap.size (.slice (some ⟨w.heap.size, 0, none⟩) 1 1) 1 [(x : Int)]) := (own_lit1 w (x : Int)).below hb
    have HBY : Hid (Bytes w2 a m (lebBytes q)) := ho.bytes (range_of_mem (lebF_bytes 10 q))
    have HNI : Hid (a = none → c = 0) := nil_of_own ho
    have hk : m ≤ 10 := by have := own_len ho; have := lebF_len 10 q; unfold lebBytes at *; omega
    clear ho hb
    have tok : True := trivial
    go_wp2_with (
      have _t := tok
      at_builtin
      refine wpList_append_bytes rfl _ _ rfl w.heap.size _ 1 [(x : Int)] rfl HO1.out a m c (lebBytes q) rfl HBY.out HNI.out (by omega) HB.out.size ?_
      intro v3 w3 ho3 hg3
      have HB3 : Hid (Below w.heap.size w w3) := HB.out.trans (HO1.out.kept HB.out.size hg3)
      have HO3 : Hid (Own w3 w.heap.size v3 (1 + m) ((x : Int) :: lebBytes q)) := ho3
      obtain ⟨a3, c3, e3, -, -, -⟩ := ho3.shape
      subst e3
      clear ho3 hg3 tok)
    go_ret
    rw [HE.out]
    exact ⟨⟨a3, 1 + m, c3, rfl, HO3.out⟩, HB3.out⟩
end Go.Proofs.YtomnogbahjcnnaaDoor
