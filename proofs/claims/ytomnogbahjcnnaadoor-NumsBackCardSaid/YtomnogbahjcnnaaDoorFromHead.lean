/- A kind and a size, read: the walk. -/
import Derived.Test.YtomnogbahjcnnaaDoorOfs2
import Derived.Test.YtomnogbahjcnnaaDoorSvSevens
import Derived.Test.YtomnogbahjcnnaaDoorSub
import Derived.BigQuiet
namespace Go.Proofs.YtomnogbahjcnnaaDoor
open Go.RowKit Plain
set_option linter.unusedVariables false
namespace Plain
/-- The kind and the size that bytes begin with, how many bytes they have, the error's number. -/
def headOf : List Int → Nat × Nat × Nat × Nat
  | [] => (0, 0, 0, 3)
  | x :: t =>
    if x.toNat < 128 then (x.toNat / 16 % 8, x.toNat % 16, 1, 0)
    else if (Sv.Plain.lebOf t).2.2 ≠ 0 then (0, 0, 0, (Sv.Plain.lebOf t).2.2)
    else if 288230376151711743 < (Sv.Plain.lebOf t).1 then (0, 0, 0, 2)
    else (x.toNat / 16 % 8, (Sv.Plain.lebOf t).1 * 16 + x.toNat % 16, (Sv.Plain.lebOf t).2.1 + 1, 0)
end Plain
theorem and8_7 : ∀ x : Nat, x < 16 → bits .and .u8 (x : Int) 7 = ((x % 8 : Nat) : Int) := by decide +kernel
theorem and8_15 : ∀ x : Nat, x < 256 → bits .and .u8 (x : Int) 15 = ((x % 16 : Nat) : Int) := by decide +kernel
theorem or_low4 (n x : Nat) (hx : x < 16) (hs : n ≤ 288230376151711743) : bits .or .i64 ((n * 16 : Nat) : Int) (x : Int) = ((n * 16 + x : Nat) : Int) := by
  show IntKind.i64.wrap ((BitVec.ofInt 64 _ ||| BitVec.ofInt 64 _ : BitVec 64).toNat : Int) = _
  rw [BitVec.toNat_or, BitVec.toNat_ofInt, BitVec.toNat_ofInt]
  have e1 : (((x : Nat) : Int) % ((2 ^ 64 : Nat) : Int)).toNat = x := by omega
  have e2 : (((n * 16 : Nat) : Int) % ((2 ^ 64 : Nat) : Int)).toNat = n <<< 4 := by rw [Nat.shiftLeft_eq]; omega
  rw [e1, e2, ← Nat.shiftLeft_add_eq_or_of_lt (show x < 2 ^ 4 by omega), Nat.shiftLeft_eq, IntKind.wrap_i64]
  omega
theorem mul_rule16 (n p : Nat) (h : n * 16 = p) : ∀ n' : Int, n' = (n : Int) → n' * 16 = (p : Int) := fun n' hn => by rw [hn, ← h]; simp
theorem results_tmp4 {fn : Func} {t u v s : Tmp} (h : fn.results = #[.tmp t, .tmp u, .tmp v, .tmp s]) (tmps : Array Value) (P : Program) (w : World) :
    (results fn tmps).run P w = .ok (.tuple #[tmps.getD t undef, tmps.getD u undef, tmps.getD v undef, tmps.getD s undef]) w := by
  simp [results, h]
set_option maxRecDepth 100000 in
set_option maxHeartbeats 4000000 in
theorem fromHead_any (a : Option Addr) (m cap : Nat) (xs : List Int) (w : World) (H : Bytes w a m xs) (hmc : m ≤ cap) (hcm : cap ≤ 9223372036854775807) :
    Calls Tryd.prog 21 #[.slice a m cap] w fun e w' =>
      e = .returned (.tuple #[.int .i64 ((headOf xs).1 : Int), .int .i64 ((headOf xs).2.1 : Int), .int .i64 ((headOf xs).2.2.1 : Int), .int .i64 ((headOf xs).2.2.2 : Int)]) ∧ Below w.heap.size w w' := by
  by_cases h0 : m = 0
  · subst h0
    obtain rfl : xs = [] := List.eq_nil_of_length_eq_zero H.1
    go_enter Tryd.func21, Tryd.ntmps21
    clear H
    go_wp2_with fail
    exact bodyPost_ret (results_tmp4 rfl _ _ _) rfl ⟨rfl, Below.refl _ _⟩
  · have HH : Hid (Bytes w a m xs) := H
    have hm0 : 0 < m := by omega
    have hmi : ¬ (m : Int) = 0 := by omega
    obtain ⟨hz, hm5, hr, h | ⟨b, off, rfl, hc⟩⟩ := H
    · omega
    have hcell : w.cell? ⟨b, off, none⟩ = some (.int .u8 (xs[0]?.getD 0)) := hc 0 hm0
    have hr0 := hr 0
    have HX : Hid (xs = xs[0]?.getD 0 :: xs.drop 1) := by
      show _ = _
      have := drop_cons xs 0 (by omega)
      simpa using this
    clear hz hr hc
    generalize xs[0]?.getD 0 = x0 at *
    obtain ⟨x, rfl⟩ := Int.eq_ofNat_of_zero_le hr0.1
    have hx : x < 256 := by omega
    obtain ⟨h, hh⟩ : ∃ h, x / 16 = h := ⟨_, rfl⟩
    obtain ⟨k, hk⟩ : ∃ k, h % 8 = k := ⟨_, rfl⟩
    obtain ⟨l, hl⟩ : ∃ l, x % 16 = l := ⟨_, rfl⟩
    have r1 := div_rule16 x h hh
    have r2 := and8_7 h (by omega)
    have r3 := and8_15 x hx
    rw [hk] at r2
    rw [hl] at r3
    have hk8 : k < 8 := by omega
    have hl16 : l < 16 := by omega
    have HK : Hid (x / 16 % 8 = k ∧ x % 16 = l) := by show _ ∧ _; rw [hh]; exact ⟨hk, hl⟩
    clear hh hk hl
    have sl : ∀ W : World, (Instr.sliceAt 23 (.slice (some ⟨b, off, none⟩) m cap) (some (.int .i64 1)) none none).run Tryd.prog W = .ok (.slice (subA (some ⟨b, off, none⟩) cap 1) (m - 1) (cap - 1)) W := fun W => slice_from (some ⟨b, off, none⟩) m cap 1 (by omega) hmc W
    have HT : Hid (Bytes w (subA (some ⟨b, off, none⟩) cap 1) (m - 1) (xs.drop 1)) := by
      have := HH.out.part cap 1 m (by omega) (Nat.le_refl _) hmc
      rwa [List.take_of_length_le (by rw [List.length_drop, HH.out.1]; omega)] at this
    generalize subA (some ⟨b, off, none⟩) cap 1 = xa at *
    have HWD : Hid (Below w.heap.size w w.drew) := (Below.refl _ _).drew
    go_enter Tryd.func21, Tryd.ntmps21
    go_wp2_with fail
    apply Sv.wp_via
    · go_region
      all_goals exact ⟨rfl, rfl, rfl⟩
    clear r1 r2 r3
    by_cases hsm : x < 128
    · have hsi : (x : Int) < 128 := by omega
      have HE : Hid (headOf xs = (k, l, 1, 0)) := by
        show _ = _
        rw [HX.out, headOf, Int.toNat_natCast, if_pos hsm, HK.out.1, HK.out.2]
      go_wp2_with fail
      refine bodyPost_ret (results_tmp4 rfl _ _ _) rfl ?_
      rw [HE.out]
      exact ⟨rfl, HWD.out⟩
    · have hsi : ¬ (x : Int) < 128 := by omega
      have hok := Sv.Plain.lebOf_ok (xs.drop 1)
      obtain ⟨v, n, e, hle⟩ : ∃ v n e, Sv.Plain.lebOf (xs.drop 1) = (v, n, e) := ⟨_, _, _, rfl⟩
      have HE : Hid (headOf xs = if e ≠ 0 then (0, 0, 0, e) else if 288230376151711743 < v then (0, 0, 0, 2) else (k, v * 16 + l, n + 1, 0)) := by
        show _ = _
        rw [HX.out, headOf, Int.toNat_natCast, if_neg hsm, HK.out.1, HK.out.2, hle]
      rw [hle, List.length_drop, HH.out.1] at hok
      have hv5 : v ≤ 4611686018427387903 := hok.1
      have hn5 : n ≤ 9223372036854775806 := by have h4 : n ≤ m - 1 := hok.2.1; omega
      have he5 : e ≤ 3 := hok.2.2.1
      clear hok
      go_wp2_with fail
      refine (Sv.fromLeb_any _ (m - 1) (cap - 1) (xs.drop 1) w.drew (HT.out.below HWD.out)).mono ?_
      rw [hle]
      rintro e' w1 ⟨rfl, hb1⟩
      have HW1 : Hid (Below w.heap.size w w1) := HWD.out.trans (hb1.mono HWD.out.size)
      clear hb1 hle
      dsimp only
      by_cases he : e = 0
      · subst he
        by_cases hv : 288230376151711743 < v
        · have hvi : (288230376151711743 : Int) < v := by omega
          go_wp2_with fail
          refine bodyPost_ret (results_tmp4 rfl _ _ _) rfl ?_
          rw [HE.out, if_neg (by simp), if_pos hv]
          exact ⟨rfl, HW1.out⟩
        · have hvi : ¬ (288230376151711743 : Int) < v := by omega
          have r1 := or_low4 v l hl16 (by omega)
          obtain ⟨y, hy⟩ : ∃ y, v * 16 = y := ⟨_, rfl⟩
          obtain ⟨z, hz⟩ : ∃ z, v * 16 + l = z := ⟨_, rfl⟩
          have HZ : Hid (v * 16 + l = z) := hz
          rw [hz, hy] at r1
          have r2 := mul_rule16 v y hy
          have r3 := wrap_rule y (by omega)
          clear hy hz
          go_wp2_with fail
          refine bodyPost_ret (results_tmp4 rfl _ _ _) rfl ?_
          rw [HE.out, if_neg (by simp), if_neg hv, HZ.out]
          dsimp only
          exact ⟨rfl, HW1.out⟩
      · have hei : ¬ (e : Int) = 0 := by omega
        go_wp2_with fail
        refine bodyPost_ret (results_tmp4 rfl _ _ _) rfl ?_
        rw [HE.out, if_pos he]
        exact ⟨rfl, HW1.out⟩
end Go.Proofs.YtomnogbahjcnnaaDoor
