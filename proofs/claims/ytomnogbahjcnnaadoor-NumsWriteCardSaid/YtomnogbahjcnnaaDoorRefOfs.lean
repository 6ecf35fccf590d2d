/- The document's offsets, kinds and sizes: the walks. -/
import Derived.Test.YtomnogbahjcnnaaDoorRefLeb
import Derived.Lib.Hide
namespace Go.Proofs.YtomnogbahjcnnaaDoor
open Go.RowKit Plain
set_option linter.unusedVariables false
theorem ofs_out (n : Int) (h : n < 0 ∨ 4611686018427387903 < n) (w : World) : Calls Tryd.prog 13 #[.int .i64 n] w fun e w' => e = .returned (.slice none 0 0) ∧ Below w.heap.size w w' := by
  go_enter Tryd.func13, Tryd.ntmps13
  rcases h with h | h
  · go_wp2_with fail
    go_ret
    exact ⟨rfl, by first | exact Below.refl _ _ | exact (Below.refl _ _).alloc (Nat.le_refl _) _⟩
  · have h0 : ¬ n < 0 := by omega
    go_wp2_with fail
    go_ret
    exact ⟨rfl, by first | exact Below.refl _ _ | exact (Below.refl _ _).alloc (Nat.le_refl _) _⟩
theorem refOfs_out (n : Int) (h : n < 0 ∨ 4611686018427387903 < n) (w : World) : Calls Tryd.prog 14 #[.int .i64 n] w fun e w' => e = .returned (.slice none 0 0) ∧ Below w.heap.size w w' := by
  go_enter Tryd.func14, Tryd.ntmps14
  rcases h with h | h
  · go_wp2_with fail
    go_ret
    exact ⟨rfl, Below.refl _ _⟩
  · have h0 : ¬ n < 0 := by omega
    have h1 : (4611686018427387904 : Int) ≤ n := by omega
    go_wp2_with fail
    go_ret
    exact ⟨rfl, Below.refl _ _⟩
theorem ofsBytes_small (n : Nat) (h : n < 128) : ofsBytes n = [(n : Int)] := by
  unfold ofsBytes ofsRise
  rw [ofsF, if_pos h, Nat.mod_eq_of_lt h]
  rfl
theorem ofsBytes_next (n q d x : Nat) (hn : n ≤ 4611686018427387903) (h : ¬ n < 128) (hq : n / 128 - 1 = q) (hd : n % 128 = d) (hx : q % 128 + 128 = x) (k : Nat) (hk : (ofsBytes q).length = k + 1) :
    (ofsBytes q).set k (x : Int) ++ [(d : Int)] = ofsBytes n := by
  have e1 : n = (q + 1) * 128 + d := by omega
  have e2 := ofsF_next q d (by omega) (by omega)
  unfold ofsBytes ofsRise at hk ⊢
  rw [List.reverse_cons] at hk ⊢
  rw [List.length_append, List.length_singleton] at hk
  rw [List.set_append_right _ _ (by omega), show k - (ofsF 9 q).reverse.length = 0 by omega, List.set_cons_zero, List.reverse_cons, hd, e1, e2, goesOn, hx]
theorem ofsBytes_last (q k : Nat) (hk : (ofsBytes q).length = k + 1) : (ofsBytes q)[k]?.getD 0 = ((q % 128 : Nat) : Int) := by
  unfold ofsBytes ofsRise at hk ⊢
  rw [List.reverse_cons] at hk ⊢
  rw [List.length_append, List.length_singleton] at hk
  rw [List.getElem?_append_right (by omega), show k - (ofsF 9 q).reverse.length = 0 by omega]
  rfl
theorem ofsBytes_len10 (n : Nat) : 0 < (ofsBytes n).length ∧ (ofsBytes n).length ≤ 10 := by
  have := ofsRise_len n
  unfold ofsBytes
  rw [List.length_reverse]
  exact ⟨by unfold ofsRise; simp, this⟩
theorem unhidO {p : Prop} (h : p) : Hid p := h
theorem pre_ruleO (k j : Nat) (h : k = j + 1) : ∀ k' : Int, k' = (k : Int) → k' - 1 = (j : Int) := fun k' h' => by rw [h', h]; omega
set_option maxRecDepth 100000 in
set_option maxHeartbeats 4000000 in
theorem refOfs_fuel : ∀ (f n : Nat), n < 128 ^ f → n ≤ 4611686018427387903 → ∀ w : World,
    Calls Tryd.prog 14 #[.int .i64 (n : Int)] w fun e w' => (∃ a k c, e = .returned (.slice a k c) ∧ Own w' w.heap.size (.slice a k c) k (ofsBytes n)) ∧ Below w.heap.size w w'
  | f, n, hn, hm, w => by
    have hn0 : ¬ (n : Int) < 0 := by omega
    have hn1 : ¬ (4611686018427387904 : Int) ≤ n := by omega
    by_cases hsm : n < 128
    · have hsi : (n : Int) < 128 := by omega
      have HE : Hid (ofsBytes n = [(n : Int)]) := ofsBytes_small n hsm
      clear hn
      go_enter Tryd.func14, Tryd.ntmps14
      go_wp2_with fail
      go_ret
      rw [HE.out]
      exact ⟨⟨_, 1, 1, rfl, own_lit1 w _⟩, (Below.refl _ _).alloc (Nat.le_refl _) _⟩
    · match f, hn with
      | 0, hn => simp at hn; omega
      | f + 1, hn =>
        have hsi : ¬ (n : Int) < 128 := by omega
        obtain ⟨p, hp⟩ : ∃ p, n / 128 = p := ⟨_, rfl⟩
        obtain ⟨q, hq⟩ : ∃ q, p - 1 = q := ⟨_, rfl⟩
        obtain ⟨d, hd⟩ : ∃ d, n % 128 = d := ⟨_, rfl⟩
        obtain ⟨y, hy⟩ : ∃ y, q % 128 = y := ⟨_, rfl⟩
        obtain ⟨x, hx⟩ : ∃ x, y + 128 = x := ⟨_, rfl⟩
        have HNEXT : Hid (∀ k, (ofsBytes q).length = k + 1 → (ofsBytes q).set k (x : Int) ++ [(d : Int)] = ofsBytes n) := fun k hk => ofsBytes_next n q d x hm hsm (by rw [hp, hq]) hd (by rw [hy, hx]) k hk
        have HLAST : Hid (∀ k, (ofsBytes q).length = k + 1 → (ofsBytes q)[k]?.getD 0 = (y : Int)) := fun k hk => by rw [ofsBytes_last q k hk, hy]
        have hqn : q < 128 ^ f := by
          have : n / 128 < 128 ^ f := by rw [Nat.div_lt_iff_lt_mul (by omega)]; rwa [Nat.pow_succ] at hn
          omega
        have r1 := div_rule128i n p hp
        have r2 := mod_rule128 n d hd
        have r3 := add_rule128 y x hx
        have r0 := pre_ruleO p q (by omega)
        have hd8 : d < 128 := by omega
        have hy8 : y < 128 := by omega
        have hx8 : x ≤ 255 := by omega
        have hqm : q ≤ 4611686018427387903 := by omega
        have r4 := wrap_rule q (by omega)
        have r5 := wrap_rule d (by omega)
        have r6 := wrap8_rule x (by omega)
        have r7 := wrap_rule p (by omega)
        have IH := fun W => refOfs_fuel f q hqn hqm W
        have HIH : Hid (∀ W : World, Calls Tryd.prog 14 #[.int .i64 (q : Int)] W fun e w' => (∃ a k c, e = .returned (.slice a k c) ∧ Own w' W.heap.size (.slice a k c) k (ofsBytes q)) ∧ Below W.heap.size W w') := IH
        have hl10 := ofsBytes_len10 q
        clear hn hq hd hx hqn IH hp hy
        go_enter Tryd.func14, Tryd.ntmps14
        go_wp2_with fail
        refine (HIH.out _).mono ?_
        rintro e w1 ⟨⟨a, k, c, rfl, ho⟩, hb⟩
        have hol := own_len ho
        obtain ⟨g, c', e', hkc, hcm, hgb, hgl⟩ := ho.form (by omega)
        cases e'
        obtain ⟨j, hj⟩ : ∃ j, k = j + 1 := ⟨k - 1, by omega⟩
        have hjk : j < k := by omega
        have HB : Hid (Below w.heap.size w w1) := hb
        have hcell := ho.cell j hjk
        rw [HLAST.out j (by omega)] at hcell
        have hfree := ho.free j
        have HOS : Hid (∀ u : Int, Own (w1.setCell ⟨g, j, none⟩ (.int .u8 u)) w.heap.size (.slice (some ⟨g, 0, none⟩) k c) k ((ofsBytes q).set j u)) := fun u => ho.stored j u
        have HBS : Hid (∀ v, Below w.heap.size w (w1.setCell ⟨g, j, none⟩ v)) := fun v => hb.setCell hgb _
        have HNX : Hid ((ofsBytes q).set j (x : Int) ++ [(d : Int)] = ofsBytes n) := HNEXT.out j (by omega)
        have hk10 : j < 10 := by omega
        subst hj
        clear ho hb hol hl10 HNEXT HLAST r0 r1 r4 r7 HIH hjk
        have hd255 : d ≤ 255 := by omega
        obtain ⟨W3, hW3⟩ : ∃ W3, w1.setCell ⟨g, j, none⟩ (.int .u8 (x : Int)) = W3 := ⟨_, rfl⟩
        have HO3 : Hid (Own W3 w.heap.size (.slice (some ⟨g, 0, none⟩) (j + 1) c) (j + 1) ((ofsBytes q).set j (x : Int))) := by rw [← hW3]; exact HOS.out _
        have HB3 : Hid (Below w.heap.size w W3) := by rw [← hW3]; exact HBS.out _
        obtain ⟨ys, hys⟩ : ∃ ys, (ofsBytes q).set j (x : Int) = ys := ⟨_, rfl⟩
        rw [hys] at HO3 HNX
        clear HOS HBS hys
        obtain rfl | rfl | rfl | rfl | rfl | rfl | rfl | rfl | rfl | rfl : j = 0 ∨ j = 1 ∨ j = 2 ∨ j = 3 ∨ j = 4 ∨ j = 5 ∨ j = 6 ∨ j = 7 ∨ j = 8 ∨ j = 9 := by omega
        all_goals
          have tok : True := trivial
          go_wp2_with (
            have _t := tok
            at_builtin
            refine wpList_append_bytes rfl _ _ rfl w.heap.size _ _ ys rfl (HO3.out.below ((Below.refl _ _).alloc (Nat.le_refl _) _)) _ 1 1 [(d : Int)] rfl (Bytes.lit W3 W3.heap.size rfl [(d : Int)] 5 (0, 0) 1 rfl (by omega) (by intro z hz; simp at hz; omega)) (fun e => by cases e) (by omega) (by have := HB3.out.size; simp; omega) ?_
            intro v4 w4 ho4 hg4
            have HB4 : Hid (Below w.heap.size w w4) := (HB3.out.alloc HB3.out.size _).trans ((HO3.out.below ((Below.refl _ _).alloc (Nat.le_refl _) _)).kept (by have := HB3.out.size; simp; omega) hg4)
            rw [HNX.out] at ho4
            obtain ⟨a4, c4, e4, -, -, -⟩ := ho4.shape
            subst e4
            have HO4 := Lib.hid ho4
            clear ho4 hg4 tok
            refine Hid.out ?_)
          refine unhidO ?_
          go_wp2_with fail
          go_ret
          exact ⟨⟨a4, _, c4, rfl, HO4.out⟩, HB4.out⟩
theorem refOfs_any (n : Nat) (hn : n ≤ 4611686018427387903) (w : World) :
    Calls Tryd.prog 14 #[.int .i64 (n : Int)] w fun e w' => (∃ a k c, e = .returned (.slice a k c) ∧ Own w' w.heap.size (.slice a k c) k (ofsBytes n)) ∧ Below w.heap.size w w' :=
  refOfs_fuel 10 n (by have := p128_10b; omega) hn w
end Go.Proofs.YtomnogbahjcnnaaDoor
