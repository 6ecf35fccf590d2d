/- Both sizes, and where the steps begin: the walks. -/
import Derived.Test.YtkpnmagcmpljoaaLebRef
import Derived.Test.YtkpnmagcmpljoaaSub
namespace Go.Proofs.Ytkpnmagcmpljoaa
open Go.RowKit Plain
set_option linter.unusedVariables false
theorem results_tmp4 {fn : Func} {t u v s : Tmp} (h : fn.results = #[.tmp t, .tmp u, .tmp v, .tmp s]) (tmps : Array Value) (P : Program) (w : World) :
    (results fn tmps).run P w = .ok (.tuple #[tmps.getD t undef, tmps.getD u undef, tmps.getD v undef, tmps.getD s undef]) w := by
  simp [results, h]
theorem Bytes.from {w : World} {a : Option Addr} {m cap : Nat} {xs : List Int} (h : Bytes w a m xs) (hmc : m ≤ cap) (k : Nat) (hk : k ≤ m) : Bytes w (subA a cap k) (m - k) (xs.drop k) := by
  have h2 := h.part cap k m hk (Nat.le_refl _) hmc
  rwa [List.take_of_length_le (by rw [List.length_drop, h.1]; exact Nat.le_refl _)] at h2
set_option maxRecDepth 100000 in
theorem sizes_any (a : Option Addr) (m cap : Nat) (xs : List Int) (w : World) (hmc : m ≤ cap) (H : Bytes w a m xs) :
    Calls Try.prog 11 #[.slice a m cap] w fun e w' =>
      e = .returned (.tuple #[.int .i64 ((sizesOf xs).1 : Int), .int .i64 ((sizesOf xs).2.1 : Int), .int .i64 ((sizesOf xs).2.2.2 : Int)]) ∧ Below w.heap.size w w' := by
  have HH : Hid (Bytes w a m xs) := H
  have o1 := lebOf_ok xs
  have o2 := lebOf_ok (xs.drop (lebOf xs).2.1)
  rw [H.1] at o1
  obtain ⟨n1, k1, e1, h1⟩ : ∃ n k e, lebOf xs = (n, k, e) := ⟨_, _, _, rfl⟩
  rw [h1] at o1 o2
  obtain ⟨n2, k2, e2, h2⟩ : ∃ n k e, lebOf (xs.drop k1) = (n, k, e) := ⟨_, _, _, rfl⟩
  rw [h2] at o2
  have HS : Hid (sizesOf xs = if e1 ≠ 0 then (0, 0, 0, e1) else if e2 ≠ 0 then (0, 0, 0, e2) else (n1, n2, k1 + k2, 0)) := by
    show _ = _
    unfold sizesOf
    rw [h1]
    simp only
    rw [h2]
  have H1 : Hid (lebOf xs = (n1, k1, e1)) := h1
  have H2 : Hid (lebOf (xs.drop k1) = (n2, k2, e2)) := h2
  have hk1 : k1 ≤ m := o1.2.1
  clear h1 h2 o1 o2 H
  have s1 := fun W => slice_from a m cap k1 hk1 hmc W
  go_enter Try.func11, Try.ntmps11
  go_wp2_with fail
  refine (fromLeb_any a m cap xs w HH.out).mono ?_
  rw [H1.out]
  rintro e w1 ⟨rfl, hb1⟩
  have HB1 : Hid (Below w.heap.size w w1) := hb1
  clear hb1
  by_cases he1 : e1 = 0
  · subst he1
    go_wp2_with fail
    refine (fromLeb_any _ _ _ (xs.drop k1) w1 ((HH.out.from hmc k1 hk1).below HB1.out)).mono ?_
    rw [H2.out]
    rintro e w2 ⟨rfl, hb2⟩
    have HB2 : Hid (Below w.heap.size w w2) := HB1.out.trans (hb2.mono HB1.out.size)
    clear hb2
    by_cases he2 : e2 = 0
    · subst he2
      go_wp2_with fail
      go_ret3
      rw [HS.out]
      exact ⟨rfl, HB2.out⟩
    · have i2 : ¬ (e2 : Int) = 0 := by omega
      go_wp2_with fail
      go_ret3
      rw [HS.out, if_neg (by omega), if_pos he2]
      exact ⟨rfl, HB2.out⟩
  · have i1 : ¬ (e1 : Int) = 0 := by omega
    go_wp2_with fail
    go_ret3
    rw [HS.out, if_pos he1]
    exact ⟨rfl, HB1.out⟩
set_option maxRecDepth 100000 in
theorem sizesRef_any (a : Option Addr) (m cap : Nat) (xs : List Int) (w : World) (hmc : m ≤ cap) (hlim : m ≤ 1000000) (H : Bytes w a m xs) :
    Calls Try.prog 12 #[.slice a m cap] w fun e w' =>
      e = .returned (.tuple #[.int .i64 ((sizesOf xs).1 : Int), .int .i64 ((sizesOf xs).2.1 : Int), .int .i64 ((sizesOf xs).2.2.1 : Int), .int .i64 ((sizesOf xs).2.2.2 : Int)]) ∧ w' = w := by
  have HH : Hid (Bytes w a m xs) := H
  have o1 := lebOf_ok xs
  have o2 := lebOf_ok (xs.drop (lebOf xs).2.1)
  rw [H.1] at o1
  rw [List.length_drop, H.1] at o2
  obtain ⟨n1, k1, e1, h1⟩ : ∃ n k e, lebOf xs = (n, k, e) := ⟨_, _, _, rfl⟩
  rw [h1] at o1 o2
  obtain ⟨n2, k2, e2, h2⟩ : ∃ n k e, lebOf (xs.drop k1) = (n, k, e) := ⟨_, _, _, rfl⟩
  rw [h2] at o2
  have HS : Hid (sizesOf xs = if e1 ≠ 0 then (0, 0, 0, e1) else if e2 ≠ 0 then (0, 0, 0, e2) else (n1, n2, k1 + k2, 0)) := by
    show _ = _
    unfold sizesOf
    rw [h1]
    simp only
    rw [h2]
  have H1 : Hid (lebOf xs = (n1, k1, e1)) := h1
  have H2 : Hid (lebOf (xs.drop k1) = (n2, k2, e2)) := h2
  have hk1 : k1 ≤ m := o1.2.1
  have hk2 : k2 ≤ m - k1 := o2.2.1
  clear h1 h2 o1 o2 H
  have s1 := fun W => slice_from a m cap k1 hk1 hmc W
  go_enter Try.func12, Try.ntmps12
  go_wp2_with fail
  refine (lebRef_any a m cap xs w HH.out).mono ?_
  rw [H1.out]
  rintro e w1 ⟨rfl, hw1⟩
  have hw1' := hw1.symm
  subst hw1'
  clear hw1
  by_cases he1 : e1 = 0
  · subst he1
    go_wp2_with fail
    refine (lebRef_any _ _ _ (xs.drop k1) w (HH.out.from hmc k1 hk1)).mono ?_
    rw [H2.out]
    rintro e w2 ⟨rfl, hw2⟩
    have hw2' := hw2.symm
    subst hw2'
    clear hw2
    by_cases he2 : e2 = 0
    · subst he2
      go_wp2_with fail
      refine bodyPost_ret (results_tmp4 rfl _ _ _) rfl ?_
      rw [HS.out]
      exact ⟨by simp, rfl⟩
    · have i2 : ¬ (e2 : Int) = 0 := by omega
      go_wp2_with fail
      refine bodyPost_ret (results_tmp4 rfl _ _ _) rfl ?_
      rw [HS.out, if_neg (by omega), if_pos he2]
      exact ⟨rfl, rfl⟩
  · have i1 : ¬ (e1 : Int) = 0 := by omega
    go_wp2_with fail
    refine bodyPost_ret (results_tmp4 rfl _ _ _) rfl ?_
    rw [HS.out, if_pos he1]
    exact ⟨rfl, rfl⟩
set_option maxRecDepth 100000 in
theorem steps_any (a : Option Addr) (m cap : Nat) (xs : List Int) (w0 w : World) (hb : Below w0.heap.size w0 w) (hmc : m ≤ cap) (hnil : a = none → cap = 0) (H : Bytes w0 a m xs) (h0 : (sizesOf xs).2.2.2 = 0) :
    Calls Try.prog 15 #[.slice a m cap] w fun e w' =>
      (∃ a' n c, e = .returned (.slice a' n c) ∧ n ≤ c ∧ n ≤ m ∧ (a' = none → c = 0) ∧ Bytes w0 a' n (xs.drop (sizesOf xs).2.2.1)) ∧ Below w.heap.size w w' := by
  have HH : Hid (Bytes w0 a m xs) := H
  have HBZ : Hid (Below w0.heap.size w0 w) := hb
  have HNIL : Hid (a = none → cap = 0) := hnil
  have o1 := lebOf_ok xs
  have o2 := lebOf_ok (xs.drop (lebOf xs).2.1)
  rw [H.1] at o1
  rw [List.length_drop, H.1] at o2
  obtain ⟨n1, k1, e1, h1⟩ : ∃ n k e, lebOf xs = (n, k, e) := ⟨_, _, _, rfl⟩
  rw [h1] at o1 o2
  obtain ⟨n2, k2, e2, h2⟩ : ∃ n k e, lebOf (xs.drop k1) = (n, k, e) := ⟨_, _, _, rfl⟩
  rw [h2] at o2
  have hs : sizesOf xs = if e1 ≠ 0 then (0, 0, 0, e1) else if e2 ≠ 0 then (0, 0, 0, e2) else (n1, n2, k1 + k2, 0) := by
    unfold sizesOf
    rw [h1]
    simp only
    rw [h2]
  have HS : Hid ((sizesOf xs).2.2.1 = k1 + k2) := by
    show _ = _
    rw [hs] at h0 ⊢
    by_cases g1 : e1 = 0
    · rw [if_neg (by omega)] at h0 ⊢
      by_cases g2 : e2 = 0
      · rw [if_neg (by omega)]
      · rw [if_pos g2] at h0; exact absurd h0 g2
    · rw [if_pos g1] at h0; exact absurd h0 g1
  have H1 : Hid (lebOf xs = (n1, k1, e1)) := h1
  have H2 : Hid (lebOf (xs.drop k1) = (n2, k2, e2)) := h2
  have hk1 : k1 ≤ m := o1.2.1
  have hk2 : k2 ≤ m - k1 := o2.2.1
  clear h1 h2 o1 o2 H hnil hs h0 hb
  have s1 := fun W => slice_from a m cap k1 hk1 hmc W
  have s2 := fun W => slice_from (subA a cap k1) (m - k1) (cap - k1) k2 hk2 (by omega) W
  go_enter Try.func15, Try.ntmps15
  go_wp2_with fail
  go_loopw [0, 6] (fun v i wr => ∃ (j : Nat), i = .int .i64 (j : Int) ∧ (j = 0 ∧ v = .slice a m cap ∨ j = 1 ∧ v = .slice (subA a cap k1) (m - k1) (cap - k1) ∨ j = 2 ∧ v = .slice (subA (subA a cap k1) (cap - k1) k2) (m - k1 - k2) (cap - k1 - k2)) ∧ Below w.heap.size w wr) (fun _ i _ => 2 - (intOf i).toNat)
  case atStart => exact ⟨0, rfl, .inl ⟨rfl, rfl⟩, Below.refl _ _⟩
  case round =>
    obtain ⟨j, rfl, hj, hbel⟩ := hrel
    have HBE : Hid (Below w.heap.size w wr) := hbel
    clear hbel
    rcases hj with ⟨rfl, rfl⟩ | ⟨rfl, rfl⟩ | ⟨rfl, rfl⟩
    · go_wp2_with fail
      refine (fromLeb_any a m cap xs wr (HH.out.below (HBZ.out.trans (HBE.out.mono HBZ.out.size)))).mono ?_
      rw [H1.out]
      rintro e w1 ⟨rfl, hb1⟩
      have HB1 : Hid (Below w.heap.size w w1) := HBE.out.trans (hb1.mono HBE.out.size)
      clear hb1
      go_wp2_with fail
      exact ⟨⟨1, by go_num, .inr (.inl ⟨rfl, rfl⟩), HB1.out⟩, by simp [intOf]⟩
    · go_wp2_with fail
      refine (fromLeb_any _ _ _ (xs.drop k1) wr ((HH.out.from hmc k1 hk1).below (HBZ.out.trans (HBE.out.mono HBZ.out.size)))).mono ?_
      rw [H2.out]
      rintro e w1 ⟨rfl, hb1⟩
      have HB1 : Hid (Below w.heap.size w w1) := HBE.out.trans (hb1.mono HBE.out.size)
      clear hb1
      go_wp2_with fail
      exact ⟨⟨2, by go_num, .inr (.inr ⟨rfl, rfl⟩), HB1.out⟩, by simp [intOf]⟩
    · go_wp2_with fail
      go_ret
      refine ⟨⟨_, _, _, rfl, by omega, by omega, subA_nil (subA_nil HNIL.out), ?_⟩, HBE.out⟩
      rw [HS.out, ← List.drop_drop]
      exact (HH.out.from hmc k1 hk1).from (by omega) k2 hk2
end Go.Proofs.Ytkpnmagcmpljoaa
