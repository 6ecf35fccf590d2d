/- Open: the walk. -/
import Derived.Test.YtglgchjkonjpiaaGreatDoorZB
import Derived.Test.YtglgchjkonjpiaaGreatDoorInfE
namespace Go.Proofs.YtglgchjkonjpiaaGreatDoor
open Go.RowKit Plain
set_option linter.unusedVariables false
/-- What Open tells of a row. -/
def OpenQ (w : World) (most : Nat) (bs : List Int) (e : Ending) (w' : World) : Prop :=
  (∃ n m va vc, openN bs most = .ok (n, m) ∧ e = .returned (.tuple #[.slice va m.length vc, .int .i64 (n : Int), .int .i64 0]) ∧ RowB w' va m.length vc m ∧ m.length ≤ most ∧ Below w.heap.size w w' ∧ n ≤ bs.length) ∨
    ∃ k, openN bs most = .error k ∧ k ≠ 0 ∧ e = .returned (.tuple #[.slice none 0 0, .int .i64 0, .int .i64 (k : Int)]) ∧ Below w.heap.size w w'
theorem neq4 (xs ys : List Int) (hx : xs.length = 4) (hy : ys.length = 4) (w : World) : (Op.equalIn 10000 51 (.agg (V8 xs)) (.agg (V8 ys))).run Tryz.prog w = .ok (xs == ys) w :=
  run_equalIn_arr w 51 4 Tryz.underlying51 xs ys hx hy
theorem Bytes.cellAt {w : World} {b off n : Nat} {xs : List Int} (h : Bytes w (some ⟨b, off, none⟩) n xs) (j : Nat) (hj : j < n) : w.cell? ⟨b, off + j, none⟩ = some (.int .u8 (xs[j]?.getD 0)) := by
  rcases h.2.2.2 with h | ⟨b', off', h1, h2⟩
  · omega
  · injection h1 with h1
    injection h1 with e1 e2
    subst e1 e2
    exact h2 j hj
theorem cell_block {w : World} {b o : Nat} {v : Value} (h : w.cell? ⟨b, o, none⟩ = some v) : b < w.heap.size := by
  rcases Nat.lt_or_ge b w.heap.size with h1 | h1
  · exact h1
  · simp [World.cell?, Array.getElem?_eq_none h1] at h
theorem wrap_at (n1 o : Nat) (h : 2 + n1 = o) (ho : o ≤ 1000000000) : (∀ x : Int, x = 2 + (n1 : Int) → wrap64 x = (o : Int)) ∧ (∀ x : Int, x = 2 + (n1 : Int) → IntKind.i64.wrap x = (o : Int)) := by
  have e : 2 + (n1 : Int) = (o : Int) := by omega
  exact ⟨fun x hx => by rw [hx, e]; exact IntWalk.wrap64_in _ (by omega), fun x hx => by rw [hx, e]; exact IntWalk.i64_in _ (by omega)⟩
theorem take4 (xs : List Int) (o : Nat) (h : o + 4 ≤ xs.length) : (xs.drop o).take 4 = [xs[o]?.getD 0, xs[o + 1]?.getD 0, xs[o + 2]?.getD 0, xs[o + 3]?.getD 0] := by
  apply List.ext_getElem
  · simp; omega
  · intro i h1 h2
    simp only [List.length_cons, List.length_nil] at h2
    rw [List.getElem_take, List.getElem_drop]
    have hi : i = 0 ∨ i = 1 ∨ i = 2 ∨ i = 3 := by omega
    rcases hi with rfl | rfl | rfl | rfl <;> simp [List.getElem?_eq_getElem (show o < xs.length by omega), List.getElem?_eq_getElem (show o + 1 < xs.length by omega), List.getElem?_eq_getElem (show o + 2 < xs.length by omega), List.getElem?_eq_getElem (show o + 3 < xs.length by omega)]
set_option maxRecDepth 100000 in
set_option maxHeartbeats 4000000 in
theorem open_any (a : Option Addr) (n c : Nat) (bs : List Int) (M : Int) (most : Nat) (w : World) (H : RowB w a n c bs) (hn : n ≤ 1000000000) (hM : most = M.toNat) (hm : most ≤ 1000000000) :
    Calls Tryz.prog 22 #[.slice a n c, .int .i64 M] w (OpenQ w most bs) := by
  have hl := H.len
  by_cases h2 : n < 2
  · have h2i : (n : Int) < 2 := by omega
    have HQ : Hid (openN bs most = .error 3) := by show _ = _; rw [openN, if_pos (by omega)]
    clear H hl
    go_enter Tryz.func22, Tryz.ntmps22
    go_wp2_with fail
    go_ret3
    exact .inr ⟨3, HQ.out, by omega, rfl, Below.refl _ _⟩
  · have h2i : ¬ (n : Int) < 2 := by omega
    obtain ⟨b, off, rfl, hc⟩ : ∃ b off, a = some ⟨b, off, none⟩ ∧ ∀ j, j < n → w.cell? ⟨b, off + j, none⟩ = some (.int .u8 (bs[j]?.getD 0)) := by
      rcases H.bytes.2.2.2 with h | ⟨b, off, h⟩
      · omega
      · exact ⟨b, off, h⟩
    have c0 := hc 0 (by omega)
    have c1 := hc 1 (by omega)
    rw [Nat.add_zero] at c0
    have hx := H.range 0
    have hy := H.range 1
    have HR := Lib.hid H
    have HOP : Hid (openN bs most = if frontN (bs[0]?.getD 0) (bs[1]?.getD 0) = false then .error 4 else openBehind bs (rawOf (bs.drop 2) most)) := by show _ = _; rw [openN, if_neg (by omega)]
    have HC := Lib.hid hc
    have h1n : (1 : Int) < (n : Int) := by omega
    have h0n : 0 < n := by omega
    have h0e : ¬ n = 0 := by omega
    clear hc H
    generalize bs[0]?.getD 0 = x at *
    generalize bs[1]?.getD 0 = y at *
    have hsl := fun W => slice_from (some ⟨b, off, none⟩) n c 2 (by omega) HR.out.le W
    have hsl2 : ∀ W : World, (Instr.sliceAt 22 (.slice (some ⟨b, off, none⟩) n c) (some (.int .i64 2)) none none).run Tryz.prog W = .ok (.slice (subA (some ⟨b, off, none⟩) c 2) (n - 2) (c - 2)) W := hsl
    clear hsl
    cases hf : frontN x y with
    | false =>
      have HQ : Hid (openN bs most = .error 4) := by show _ = _; rw [HOP.out, if_pos hf]
      have hrf := fun W => rightFront_any W x y hx hy
      rw [hf] at hrf
      have HRF := Lib.hid hrf
      clear HOP hf hrf
      go_enter Tryz.func22, Tryz.ntmps22
      go_wp2_with fail
      go_region_held3 (fun W => W.cell? ⟨b, off, none⟩ = some (.int .u8 x) ∧ W.cell? ⟨b, off + 1, none⟩ = some (.int .u8 y))
        (first | exact ⟨c0, c1⟩ | go_keep | assumption)
        (first | (go_at_call 42; refine (HRF.out _).mono ?_; rintro e w2 ⟨rfl, rfl⟩))
      have HDB : Hid (Below w.heap.size w w.drew) := (Below.refl _ _).drew
      generalize w.drew = wd at *
      clear c0 c1
      go_wp2_with fail
      go_ret3
      exact .inr ⟨4, HQ.out, by omega, rfl, HDB.out⟩
    | true =>
      have HQ : Hid (openN bs most = openBehind bs (rawOf (bs.drop 2) most)) := by show _ = _; rw [HOP.out, if_neg (by simp [hf])]
      have hrf := fun W => rightFront_any W x y hx hy
      rw [hf] at hrf
      have HRF := Lib.hid hrf
      clear HOP hf hrf
      go_enter Tryz.func22, Tryz.ntmps22
      go_wp2_with fail
      go_region_held3 (fun W => W.cell? ⟨b, off, none⟩ = some (.int .u8 x) ∧ W.cell? ⟨b, off + 1, none⟩ = some (.int .u8 y))
        (first | exact ⟨c0, c1⟩ | go_keep | assumption)
        (first | (go_at_call 42; refine (HRF.out _).mono ?_; rintro e w2 ⟨rfl, rfl⟩))
      have HDB : Hid (Below w.heap.size w w.drew) := (Below.refl _ _).drew
      generalize w.drew = wd at *
      clear c0 c1
      have HP := Lib.hid ((HR.out.below HDB.out).part 2 (by omega))
      go_wp2_with fail
      refine (raw_row _ (n - 2) (c - 2) (bs.drop 2) M most wd HP.out (by omega) hM hm).mono ?_
      rintro e w3 (⟨q, m, ya, yc, hr, rfl, hrow, hmm, hb, -⟩ | ⟨k, hr, hk, rfl, hb⟩)
      · have hq := raw_last hr
        rw [List.length_drop, hl] at hq
        obtain ⟨n1, hn1⟩ : ∃ n1, (q + 7) / 8 = n1 := ⟨_, rfl⟩
        have hQ := HQ.out
        rw [hr, openBehind] at hQ
        rw [hn1, hl] at hQ
        rw [hn1]
        have HQ2 := Lib.hid hQ
        have hn2 : n1 ≤ n - 2 := by omega
        obtain ⟨o, ho⟩ : ∃ o, 2 + n1 = o := ⟨_, rfl⟩
        rw [ho] at HQ2
        have hon : o ≤ n := by omega
        have hwo := (wrap_at n1 o ho (by omega)).1
        have hwo2 := (wrap_at n1 o ho (by omega)).2
        have hsl3 := slice_from (some ⟨b, off, none⟩) n c o hon HR.out.le
        obtain ⟨rl, hrl⟩ : ∃ rl, n - o = rl := ⟨_, rfl⟩
        rw [hrl] at hsl3 HQ2
        have hrn : o + rl = n := by omega
        have HB3 : Hid (Below w.heap.size w w3) := HDB.out.trans (hb.mono HDB.out.size)
        have HY := Lib.hid hrow
        obtain ⟨ml, hml⟩ : ∃ ml, m.length = ml := ⟨_, rfl⟩
        rw [hml] at HY ⊢
        have HML := Lib.hid hml
        have HMM : Hid (m.length ≤ most) := hmm
        clear hr hrow hb hq hn1 hQ HQ HP hml hmm
        by_cases h4 : rl < 4
        · have h4i : (rl : Int) < 4 := by omega
          have HQ3 : Hid (openN bs most = .error 3) := by show _ = _; rw [HQ2.out, if_pos h4]
          go_wp2_with fail
          go_ret3
          exact .inr ⟨3, HQ3.out, by omega, rfl, HB3.out⟩
        · have h4i : ¬ (rl : Int) < 4 := by omega
          have r0 : 0 < rl := by omega
          have r0e : ¬ rl = 0 := by omega
          have r1 : (1 : Int) < (rl : Int) := by omega
          have r2 : (2 : Int) < (rl : Int) := by omega
          have r3 : (3 : Int) < (rl : Int) := by omega
          have hsub : subA (some ⟨b, off, none⟩) c o = some ⟨b, off + o, none⟩ := by
            have hle := HR.out.le
            unfold subA
            rw [if_neg (by omega)]
            show some (Addr.add _ _) = _
            unfold Addr.add
            split <;> simp_all
          rw [hsub] at hsl3
          have hR3 := (HR.out.below HB3.out).bytes
          have k0 := hR3.cellAt o (by omega)
          have k1 := hR3.cellAt (o + 1) (by omega)
          have k2 := hR3.cellAt (o + 2) (by omega)
          have k3 := hR3.cellAt (o + 3) (by omega)
          rw [show off + (o + 1) = off + o + 1 by omega] at k1
          rw [show off + (o + 2) = off + o + 2 by omega] at k2
          rw [show off + (o + 3) = off + o + 3 by omega] at k3
          have hbs : b < w3.heap.size := cell_block k0
          have HT4 := Lib.hid (take4 bs o (by omega))
          have HQ3 : Hid (openN bs most = if (bs.drop o).take 4 ≠ tail4 m then .error 5 else .ok (o + 4, m)) := by show _ = _; rw [HQ2.out, if_neg h4]
          rw [HT4.out] at HQ3
          have HTL : Hid ((tail4 m).length = 4) := rfl
          clear HQ2 hR3 HT4
          generalize bs[o]?.getD 0 = x0 at *
          generalize bs[o + 1]?.getD 0 = x1 at *
          generalize bs[o + 2]?.getD 0 = x2 at *
          generalize bs[o + 3]?.getD 0 = x3 at *
          have hS := fun W => sumOf_any W ya ml yc m
          generalize tail4 m = T at *
          have heq : ∀ W : World, (Op.equalIn 10000 51 (.agg #[.int .u8 x0, .int .u8 x1, .int .u8 x2, .int .u8 x3]) (.agg (V8 T))).run Tryz.prog W = .ok ([x0, x1, x2, x3] == T) W := fun W => neq4 [x0, x1, x2, x3] T rfl HTL.out W
          have HSS := Lib.hid hS
          have hcap := HR.out.le
          have hoc : ¬ c = o := by omega
          clear hS
          cases hbb : ([x0, x1, x2, x3] == T) with
          | true =>
            have hee : [x0, x1, x2, x3] = T := by simpa using hbb
            have HQ4 : Hid (openN bs most = .ok (o + 4, m)) := by show _ = _; rw [HQ3.out, if_neg (by simp [hee])]
            rw [hbb] at heq
            clear hbb hee HQ3
            go_wp2_with fail
            go_region_held3 (fun W => W.cell? ⟨b, off + o, none⟩ = some (.int .u8 x0) ∧ W.cell? ⟨b, off + o + 1, none⟩ = some (.int .u8 x1) ∧ W.cell? ⟨b, off + o + 2, none⟩ = some (.int .u8 x2) ∧ W.cell? ⟨b, off + o + 3, none⟩ = some (.int .u8 x3))
              (first | exact ⟨k0, k1, k2, k3⟩ | exact ⟨j0, j1, j2, j3⟩ | go_keep | assumption)
              (first | (go_at_call 25; refine (HSS.out _ (HY.out.bytes.below (Below.refl _ _).drew)).mono ?_; rintro e w4 ⟨rfl, hb4⟩; have hbj : Below w3.heap.size w3 w4 := (Below.refl _ _).drew.trans hb4; have j0 := (hbj.cell (p := ⟨b, off + o, none⟩) hbs).trans k0; have j1 := (hbj.cell (p := ⟨b, off + o + 1, none⟩) hbs).trans k1; have j2 := (hbj.cell (p := ⟨b, off + o + 2, none⟩) hbs).trans k2; have j3 := (hbj.cell (p := ⟨b, off + o + 3, none⟩) hbs).trans k3))
            have HB5 : Hid (Below w.heap.size w w4) := HB3.out.trans (hbj.mono HB3.out.size)
            have HY4 := Lib.hid (HY.out.below hbj)
            clear k0 k1 k2 k3 j0 j1 j2 j3 hbj hb4 HSS HY heq
            go_wp2_with fail
            go_ret3
            have hml := HML.out
            subst hml
            exact .inl ⟨o + 4, m, ya, yc, HQ4.out, rfl, HY4.out, HMM.out, HB5.out, by omega⟩
          | false =>
            have hee : [x0, x1, x2, x3] ≠ T := fun e => by rw [e] at hbb; simp at hbb
            have HQ4 : Hid (openN bs most = .error 5) := by show _ = _; rw [HQ3.out, if_pos hee]
            rw [hbb] at heq
            clear hbb hee HQ3
            go_wp2_with fail
            go_region_held3 (fun W => W.cell? ⟨b, off + o, none⟩ = some (.int .u8 x0) ∧ W.cell? ⟨b, off + o + 1, none⟩ = some (.int .u8 x1) ∧ W.cell? ⟨b, off + o + 2, none⟩ = some (.int .u8 x2) ∧ W.cell? ⟨b, off + o + 3, none⟩ = some (.int .u8 x3))
              (first | exact ⟨k0, k1, k2, k3⟩ | exact ⟨j0, j1, j2, j3⟩ | go_keep | assumption)
              (first | (go_at_call 25; refine (HSS.out _ (HY.out.bytes.below (Below.refl _ _).drew)).mono ?_; rintro e w4 ⟨rfl, hb4⟩; have hbj : Below w3.heap.size w3 w4 := (Below.refl _ _).drew.trans hb4; have j0 := (hbj.cell (p := ⟨b, off + o, none⟩) hbs).trans k0; have j1 := (hbj.cell (p := ⟨b, off + o + 1, none⟩) hbs).trans k1; have j2 := (hbj.cell (p := ⟨b, off + o + 2, none⟩) hbs).trans k2; have j3 := (hbj.cell (p := ⟨b, off + o + 3, none⟩) hbs).trans k3))
            have HB5 : Hid (Below w.heap.size w w4) := HB3.out.trans (hbj.mono HB3.out.size)
            clear k0 k1 k2 k3 j0 j1 j2 j3 hbj hb4 HSS HY heq
            go_wp2_with fail
            go_ret3
            exact .inr ⟨5, HQ4.out, by omega, rfl, HB5.out⟩
      · have hki : ¬ ((k : Int) = 0) := by omega
        have hkb : ((k : Int) == 0) = false := by simp; omega
        have hkc : ((k : Int) != 0) = true := by simp; omega
        have hQ := HQ.out
        rw [hr] at hQ
        have HQ2 : Hid (openN bs most = .error k) := hQ
        have HB3 : Hid (Below w.heap.size w w3) := HDB.out.trans (hb.mono HDB.out.size)
        have HK : Hid (k ≠ 0) := hk
        clear hr hb hQ HQ hk
        go_wp2_with fail
        go_ret3
        exact .inr ⟨k, HQ2.out, HK.out, rfl, HB3.out⟩
end Go.Proofs.YtglgchjkonjpiaaGreatDoor
