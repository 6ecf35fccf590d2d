/- Lengths and distances: the walks. -/
import Derived.Test.YteaaoigeopekiaaSigns4
namespace Go.Proofs.Yteaaoigeopekiaa
open Go.RowKit Plain
set_option linter.unusedVariables false
theorem and3 : ∀ y : Nat, y < 8 → bits .and .i64 (y : Int) 3 = ((y % 4 : Nat) : Int) := by decide +kernel
theorem and1 : ∀ y : Nat, y < 8 → bits .and .i64 (y : Int) 1 = ((y % 2 : Nat) : Int) := by decide +kernel
theorem shl_one (f : Nat) (hf : f ≤ 20) : IntKind.i64.wrap ((2 : Int) ^ f) = (2 : Int) ^ f ∧ IntKind.i64.wrap ((2 : Int) ^ f - 1) = (2 : Int) ^ f - 1 ∧ wrap64 ((2 : Int) ^ f - 1) = (2 : Int) ^ f - 1 ∧ wrap64 ((2 : Int) ^ f) = (2 : Int) ^ f := by
  have hp : 2 ^ f ≤ 1048576 := by have := Nat.pow_le_pow_right (n := 2) (by omega) hf; simpa using this
  have hp0 := Nat.two_pow_pos f
  have e : (2 : Int) ^ f = ((2 ^ f : Nat) : Int) := by simp
  rw [e]
  exact ⟨IntWalk.i64_in _ (by omega), IntWalk.i64_in _ (by omega), IntWalk.wrap64_in _ (by omega), IntWalk.wrap64_in _ (by omega)⟩
set_option maxRecDepth 100000 in
set_option maxHeartbeats 4000000 in
theorem wlength_any (base B : Nat) (v : Nat × Nat) (n : Nat) (w : World) (H : WP w base B v) (h3 : 3 ≤ n) (hn : n ≤ 258) (hT : v.2 ≤ 900000) :
    Calls Try.prog 33 #[.pointer (some ⟨B, 0, none⟩), .int .i64 (n : Int)] w fun e w' => e = .returned (.tuple #[]) ∧ WP w' base B (putLen n v) ∧ FrW B base w w' := by
  have HW := Lib.hid H
  have hBs := Wrt.size H
  clear H
  by_cases h258 : n = 258
  · have hni : (n : Int) = 258 := by omega
    have HP : Hid (putLen n v = putS 285 v) := by show _ = _; rw [putLen, if_pos h258]
    have HC := Lib.hid (wsign_any base B v 285 w HW.out (by omega) (by omega))
    subst h258
    go_enter Try.func33, Try.ntmps33
    go_wp2_with fail
    refine HC.out.mono ?_
    rintro e w2 ⟨rfl, h2, hb2⟩
    have H2 := Lib.hid h2
    have HB2 := Lib.hid hb2
    clear h2 hb2 HC
    go_wp2_with fail
    go_end0
    refine ⟨rfl, ?_, HB2.out⟩
    rw [HP.out]
    exact H2.out
  · have hni : ¬ (n : Int) = 258 := by omega
    by_cases h10 : n ≤ 10
    · have h10i : (n : Int) ≤ 10 := by omega
      have HP : Hid (putLen n v = putS (254 + n) v) := by show _ = _; rw [putLen, if_neg h258, if_pos h10]
      have hc := wsign_any base B v (254 + n) w HW.out (by omega) (by omega)
      obtain ⟨s, es⟩ : ∃ s, 254 + n = s := ⟨_, rfl⟩
      rw [es] at hc HP
      have esi : (254 : Int) + (n : Int) = (s : Int) := by omega
      have HC := Lib.hid hc
      clear hc es
      go_enter Try.func33, Try.ntmps33
      go_wp2_with fail
      refine HC.out.mono ?_
      rintro e w2 ⟨rfl, h2, hb2⟩
      have H2 := Lib.hid h2
      have HB2 := Lib.hid hb2
      clear h2 hb2 HC
      go_wp2_with fail
      go_end0
      refine ⟨rfl, ?_, HB2.out⟩
      rw [HP.out]
      exact H2.out
    · have h10i : ¬ (n : Int) ≤ 10 := by omega
      obtain ⟨x, ex⟩ : ∃ x, n - 3 = x := ⟨_, rfl⟩
      have exi : (n : Int) - 3 = (x : Int) := by omega
      have hx8 : 8 ≤ x := by omega
      have hb4 : 4 ≤ bl x := bl_pos (k := 3) hx8
      have hb16 := bl_le x (by omega)
      have hdv := bl_div (x := x) 3 (by omega) (by omega) (by omega)
      have HP : Hid (putLen n v = put (x % 2 ^ (bl x - 3)) (bl x - 3) (putS (261 + 4 * (bl x - 3) + x / 2 ^ (bl x - 3) % 4) v)) := by show _ = _; rw [putLen, if_neg h258, if_neg h10, ex]
      have HLEN := Lib.hid (fun W => len_any x (by omega) W)
      obtain ⟨l, el⟩ : ∃ l, bl x = l := ⟨_, rfl⟩
      rw [el] at HLEN HP hdv hb4 hb16
      obtain ⟨f, ef⟩ : ∃ f, l - 3 = f := ⟨_, rfl⟩
      rw [ef] at HP hdv
      have efi : (l : Int) - 3 = (f : Int) := by omega
      have hf : f ≤ 13 := by omega
      obtain ⟨y, ey⟩ : ∃ y, x / 2 ^ f = y := ⟨_, rfl⟩
      rw [ey] at HP hdv
      have eyi : (x : Int) / 2 ^ f = (y : Int) := by rw [← ey]; simp
      have hy8 : y < 8 := hdv.2
      have ha3 := and3 y hy8
      obtain ⟨t, et⟩ : ∃ t, y % 4 = t := ⟨_, rfl⟩
      rw [et] at ha3 HP
      obtain ⟨s, es⟩ : ∃ s, 261 + 4 * f + t = s := ⟨_, rfl⟩
      rw [es] at HP
      have esi : 261 + 4 * (f : Int) + (t : Int) = (s : Int) := by omega
      have hs : s ≤ 287 := by
        have h1 : l ≤ 8 := by
          rw [← el]; unfold bl; rw [if_neg (by omega)]
          have := (Nat.log2_lt (by omega : x ≠ 0) (k := 8)).2 (by omega)
          omega
        omega
      have hlow := (and_low3 x f (by omega)).resolve_right (by omega)
      obtain ⟨z, ez⟩ : ∃ z, x % 2 ^ f = z := ⟨_, rfl⟩
      rw [ez] at hlow HP
      have hz : z < 2 ^ f := by rw [← ez]; exact Nat.mod_lt _ (Nat.two_pow_pos _)
      obtain ⟨g1, g2, g3, g4⟩ := shl_one f (by omega)
      have hux : IntKind.u64.wrap (x : Int) = (x : Int) := by rw [IntKind.wrap_u64]; omega
      have HC := Lib.hid (wsign_any base B v s w HW.out hs (by omega))
      have hf16 : f ≤ 32 := by omega
      clear ex el ef ey et es ez hdv
      go_enter Try.func33, Try.ntmps33
      go_wp2_with fail
      refine (HLEN.out w).mono ?_
      rintro e w1 ⟨rfl, rfl⟩
      go_wp2_with fail
      refine HC.out.mono ?_
      rintro e w2 ⟨rfl, h2, hb2⟩
      have H2 := Lib.hid h2
      have HB2 := Lib.hid hb2
      have hT2 : (putS s v).2 ≤ 1000000 := by unfold putS putC put fixC; simp only; repeat (first | split | omega)
      clear h2 hb2 HC
      go_wp2_with fail
      refine (wnumber_any base B (putS s v).1 (putS s v).2 z f w2 H2.out hz hf16 hT2).mono ?_
      rintro e w3 ⟨rfl, h3, hb3⟩
      have H3 := Lib.hid h3
      have HB3 := Lib.hid hb3
      clear h3 hb3
      go_wp2_with fail
      go_end0
      refine ⟨rfl, ?_, HB2.out.trans HB3.out⟩
      rw [HP.out]
      exact H3.out
set_option maxRecDepth 100000 in
set_option maxHeartbeats 4000000 in
theorem wdistance_any (base B : Nat) (v : Nat × Nat) (d : Nat) (w : World) (H : WP w base B v) (h1 : 1 ≤ d) (hd : d ≤ 32768) (hT : v.2 ≤ 900000) :
    Calls Try.prog 34 #[.pointer (some ⟨B, 0, none⟩), .int .i64 (d : Int)] w fun e w' => e = .returned (.tuple #[]) ∧ WP w' base B (putDist d v) ∧ FrW B base w w' := by
  have HW := Lib.hid H
  have hBs := Wrt.size H
  clear H
  obtain ⟨x, ex⟩ : ∃ x, d - 1 = x := ⟨_, rfl⟩
  have exi : (d : Int) - 1 = (x : Int) := by omega
  by_cases h3 : x ≤ 3
  · have h3i : (x : Int) ≤ 3 := by omega
    have HP : Hid (putDist d v = putC x 5 v) := by show _ = _; rw [putDist, ex, if_pos h3]
    have HC := Lib.hid (wcode_5 base B v.1 v.2 x w HW.out (by omega) (by omega))
    clear ex
    go_enter Try.func34, Try.ntmps34
    go_wp2_with fail
    refine HC.out.mono ?_
    rintro e w2 ⟨rfl, h2, hb2⟩
    have H2 := Lib.hid h2
    have HB2 := Lib.hid hb2
    clear h2 hb2 HC
    go_wp2_with fail
    refine bodyPost_ret (results_none Try.results34 _ _ _) rfl ?_
    refine ⟨rfl, ?_, HB2.out⟩
    rw [HP.out]
    exact H2.out
  · have h3i : ¬ (x : Int) ≤ 3 := by omega
    have hx4 : 4 ≤ x := by omega
    have hb4 : 3 ≤ bl x := bl_pos (k := 2) hx4
    have hb16 : bl x ≤ 15 := by
      unfold bl; rw [if_neg (by omega)]
      have := (Nat.log2_lt (by omega : x ≠ 0) (k := 15)).2 (by omega)
      omega
    have hdv := bl_div (x := x) 2 (by omega) (by omega) (by omega)
    have HP : Hid (putDist d v = put (x % 2 ^ (bl x - 2)) (bl x - 2) (putC (2 + 2 * (bl x - 2) + x / 2 ^ (bl x - 2) % 2) 5 v)) := by show _ = _; rw [putDist, ex, if_neg h3]
    have HLEN := Lib.hid (fun W => len_any x (by omega) W)
    obtain ⟨l, el⟩ : ∃ l, bl x = l := ⟨_, rfl⟩
    rw [el] at HLEN HP hdv hb4 hb16
    obtain ⟨f, ef⟩ : ∃ f, l - 2 = f := ⟨_, rfl⟩
    rw [ef] at HP hdv
    have efi : (l : Int) - 2 = (f : Int) := by omega
    have hf : f ≤ 13 := by omega
    obtain ⟨y, ey⟩ : ∃ y, x / 2 ^ f = y := ⟨_, rfl⟩
    rw [ey] at HP hdv
    have eyi : (x : Int) / 2 ^ f = (y : Int) := by rw [← ey]; simp
    have hy8 : y < 4 := hdv.2
    have ha3 := and1 y (by omega)
    obtain ⟨t, et⟩ : ∃ t, y % 2 = t := ⟨_, rfl⟩
    rw [et] at ha3 HP
    obtain ⟨s, es⟩ : ∃ s, 2 + 2 * f + t = s := ⟨_, rfl⟩
    rw [es] at HP
    have esi : 2 + 2 * (f : Int) + (t : Int) = (s : Int) := by omega
    have hs : s < 32 := by omega
    have hlow := (and_low3 x f (by omega)).resolve_right (by omega)
    obtain ⟨z, ez⟩ : ∃ z, x % 2 ^ f = z := ⟨_, rfl⟩
    rw [ez] at hlow HP
    have hz : z < 2 ^ f := by rw [← ez]; exact Nat.mod_lt _ (Nat.two_pow_pos _)
    obtain ⟨g1, g2, g3, g4⟩ := shl_one f (by omega)
    have hux : IntKind.u64.wrap (x : Int) = (x : Int) := by rw [IntKind.wrap_u64]; omega
    have HC := Lib.hid (wcode_5 base B v.1 v.2 s w HW.out (by omega) (by omega))
    have hf16 : f ≤ 32 := by omega
    clear ex el ef ey et es ez hdv
    go_enter Try.func34, Try.ntmps34
    go_wp2_with fail
    refine (HLEN.out w).mono ?_
    rintro e w1 ⟨rfl, rfl⟩
    go_wp2_with fail
    refine HC.out.mono ?_
    rintro e w2 ⟨rfl, h2, hb2⟩
    have H2 := Lib.hid h2
    have HB2 := Lib.hid hb2
    have hT2 : (putC s 5 v).2 ≤ 1000000 := by show v.2 + 5 ≤ _; omega
    clear h2 hb2 HC
    go_wp2_with fail
    refine (wnumber_any base B (putC s 5 v).1 (putC s 5 v).2 z f w2 H2.out hz hf16 hT2).mono ?_
    rintro e w3 ⟨rfl, h3, hb3⟩
    have H3 := Lib.hid h3
    have HB3 := Lib.hid hb3
    clear h3 hb3
    go_wp2_with fail
    go_end0
    refine ⟨rfl, ?_, HB2.out.trans HB3.out⟩
    rw [HP.out]
    exact H3.out
end Go.Proofs.Yteaaoigeopekiaa
