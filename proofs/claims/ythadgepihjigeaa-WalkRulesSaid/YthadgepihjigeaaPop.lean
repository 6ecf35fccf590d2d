/- The heap: the least one away; one more: the walks. -/
import Derived.Test.YthadgepihjigeaaHeap
namespace Go.Proofs.Ythadgepihjigeaa
open Go.RowKit Plain
set_option linter.unusedVariables false
/-- What a call may change: blocks H and g; and new ones. -/
structure Fr2 (w w' : World) (H g : Nat) : Prop where
  os : w'.os = w.os
  tape : w'.tape = w.tape
  output : w'.output = w.output
  size : w.heap.size ≤ w'.heap.size
  block : ∀ k, k < w.heap.size → k ≠ H → k ≠ g → w'.heap[k]? = w.heap[k]?
theorem Fr2.of {w w' : World} {H g : Nat} (h : w.grownBy w' (some g)) : Fr2 w w' H g := ⟨h.os, h.tape, h.output, h.size, fun k hk _ hg => h.block k hk (fun e => hg (by injection e))⟩
theorem Fr2.of' {w w' : World} {H g : Nat} (h : w.grownBy w' (some H)) : Fr2 w w' H g := ⟨h.os, h.tape, h.output, h.size, fun k hk hg _ => h.block k hk (fun e => hg (by injection e))⟩
theorem Fr2.trans {w w1 w2 : World} {H g : Nat} (h1 : Fr2 w w1 H g) (h2 : Fr2 w1 w2 H g) : Fr2 w w2 H g :=
  ⟨h2.os.trans h1.os, h2.tape.trans h1.tape, h2.output.trans h1.output, Nat.le_trans h1.size h2.size, fun k hk a b => (h2.block k (Nat.lt_of_lt_of_le hk h1.size) a b).trans (h1.block k hk a b)⟩
theorem Fr2.refl (w : World) (H g : Nat) : Fr2 w w H g := ⟨rfl, rfl, rfl, Nat.le_refl _, fun _ _ _ _ => rfl⟩
theorem ownsRow_cut {w : World} {base g m c n : Nat} {e : TypeId} {xs : List Value} (h : w.ownsRow base e 1 (.slice (some ⟨g, 0, none⟩) m c) m xs) (hn : n ≤ m) : w.ownsRow base e 1 (.slice (some ⟨g, 0, none⟩) n c) n (xs.take n) := by
  obtain ⟨h1, h2 | ⟨g', cap, cur, e1, hb, hg, hle, hcm, hcs, ht⟩⟩ := h
  · simp at h2
  · simp only [Value.slice.injEq, Option.some.injEq, Addr.mk.injEq, and_true, true_and] at e1
    obtain ⟨rfl, rfl⟩ := e1
    refine ⟨by rw [List.length_take]; omega, .inr ⟨g, c, cur, rfl, hb, hg, by omega, hcm, hcs, ?_⟩⟩
    rw [← ht, List.take_take, Nat.mul_one, Nat.mul_one, Nat.min_eq_left hn]
theorem HeapAt.cut {w : World} {H base g c : Nat} {xs : List Int} (h : HeapAt w H base g c xs) (n : Nat) (hn : n ≤ xs.length) : HeapAt (w.setCell ⟨H, 0, none⟩ (.slice (some ⟨g, 0, none⟩) n c)) H base g c (xs.take n) ∧ w.grownBy (w.setCell ⟨H, 0, none⟩ (.slice (some ⟨g, 0, none⟩) n c)) (some H) := by
  have hl : (xs.take n).length = n := by rw [List.length_take]; omega
  have hgr : w.grownBy (w.setCell ⟨H, 0, none⟩ (.slice (some ⟨g, 0, none⟩) n c)) (some H) := ⟨rfl, rfl, rfl, by simp, fun k _ hk => heap_setCell_other w ⟨H, 0, none⟩ k _ (fun e => hk (by simp [e]))⟩
  refine ⟨⟨?_, ?_, h.ne, (World.frozen?_setCell w ⟨H, 0, none⟩ ⟨H, 0, none⟩ _).trans h.fro⟩, hgr⟩
  · rw [hl]
    exact World.cell?_setCell_same _ _ _ h.cell
  · rw [hl]
    have h1 := ownsRow_cut h.row hn
    have h2 : I64 (xs.take n) = (I64 xs).take n := by unfold I64; rw [List.map_take]
    rw [h2]
    refine h1.kept hgr (.inr ?_)
    show some g ≠ some H
    exact fun e => h.ne (by injection e with e; exact e.symm)
theorem slice_toI (a : Option Addr) (m cap hi : Nat) (h2 : hi ≤ cap) (w : World) :
    (Instr.sliceAt 24 (.slice a m cap) none (some (.int .i64 (hi : Int))) none).run Try.prog w = .ok (.slice a hi cap) w := by
  have hsz : ∀ W : World, (sizeOf (Try.prog.elem 24)).run Try.prog W = .ok 1 W := fun W => by kernel_rfl
  have h0 : ∀ x : Addr, x.add 0 = x := fun x => by unfold Addr.add; simp
  rw [run_sliceAt_slice w 24 _ _ _ _ (by kernel_rfl), run_slice_h w 24 a m cap (by kernel_rfl) .i64 (hi : Int) (by omega) (by omega), hsz]
  simp [Result.andThen_ok, sliced, h0]
theorem HeapAt.cap {w : World} {H base g c : Nat} {xs : List Int} (h : HeapAt w H base g c xs) : xs.length ≤ c := by
  obtain ⟨h1, h2 | ⟨g', cap, cur, e1, hb, hg, hle, -⟩⟩ := h.row
  · simp at h2
  · simp only [Value.slice.injEq, Option.some.injEq, Addr.mk.injEq, and_true, true_and] at e1
    omega
theorem lesser_all (H base g c : Nat) (xs : List Int) (i j : Nat) (w : World) (h : HeapAt w H base g c xs) (hi : i < xs.length ∨ ¬ j < xs.length) :
    Calls Try.prog 30 #[.pointer (some ⟨H, 0, none⟩), .int .i64 (i : Int), .int .i64 (j : Int)] w fun e w' => e = .returned (.int .i64 ((lesserL xs i j : Nat) : Int)) ∧ HeapAt w' H base g c xs ∧ w.grownBy w' (some g) := by
  rcases hi with hi | hi
  · exact lesser_any H base g c xs i j w h hi
  · exact lesser_far H base g c xs i j w h hi
theorem lesser_at (H base g c : Nat) (xs : List Int) (i j : Nat) (I J : Int) (hI : I = (i : Int)) (hJ : J = (j : Int)) (w : World) (h : HeapAt w H base g c xs) (hi : i < xs.length ∨ ¬ j < xs.length) :
    Calls Try.prog 30 #[.pointer (some ⟨H, 0, none⟩), .int .i64 I, .int .i64 J] w fun e w' => e = .returned (.int .i64 ((lesserL xs i j : Nat) : Int)) ∧ HeapAt w' H base g c xs ∧ w.grownBy w' (some g) := by
  subst hI hJ
  exact lesser_all H base g c xs i j w h hi
theorem two_of (i k : Nat) (hk : k ≤ 2) (hi : i ≤ 1000000000) : ∀ x : Int, x = 2 * (i : Int) + (k : Int) → wrap64 x = ((2 * i + k : Nat) : Int) := fun x hx => by
  rw [hx, show 2 * (i : Int) + (k : Int) = ((2 * i + k : Nat) : Int) by omega]
  exact IntWalk.wrap64_in _ (by omega)
set_option maxRecDepth 100000 in
set_option maxHeartbeats 4000000 in
theorem pop_any (H base g c n : Nat) (xs : List Int) (w : World) (h : HeapAt w H base g c xs) (ho : HeapOk xs) (hn : xs.length = n + 1) (hn9 : n ≤ 100000000) :
    Calls Try.prog 23 #[.pointer (some ⟨H, 0, none⟩)] w fun e w' => e = .returned (.int .i64 (at0 xs 0)) ∧ ∃ ys, HeapAt w' H base g c ys ∧ HeapOk ys ∧ ys.length = n ∧ (ys ++ [at0 xs 0]).Perm xs ∧ Fr2 w w' H g := by
  have HH := Lib.hid h
  have hcap := h.cap
  have hc := h.cell
  obtain ⟨c0, f0⟩ := h.at_ 0 (by omega)
  obtain ⟨HD0, HP0⟩ := down_start ho hn
  have HD := Lib.hid HD0
  have HP := Lib.hid HP0
  have HSW := Lib.hid (fun W (h : HeapAt W H base g c xs) => swap_all H base g c xs 0 n W h (by omega) (by omega))
  have HSL : Hid ((swapL xs 0 n).length = n + 1) := by show _ = _; rw [swapL_len, hn]
  generalize at0 xs 0 = x at *
  rw [hn] at hc hcap
  have hw1 : wrap64 (((n + 1 : Nat) : Int) - 1) = (n : Int) := by
    rw [show ((n + 1 : Nat) : Int) - 1 = (n : Int) by omega]; exact IntWalk.wrap64_in _ (by omega)
  have hn1 : (0 : Int) < ((n + 1 : Nat) : Int) := by omega
  have hsl := fun W => slice_toI (some ⟨g, 0, none⟩) (n + 1) c n (by omega) W
  clear h HD0 HP0
  go_enter Try.func23, Try.ntmps23
  go_wp2_with fail
  go_quiet (fail)
  go_wp2_with fail
  refine (HSW.out _ (HH.out.drewN _)).mono ?_
  rintro e w1 ⟨rfl, h1, hg⟩
  have F1 : Hid (Fr2 w w1 H g) := Fr2.of (grown_trans (grown_drewN (grown_refl w _) _) hg)
  have h1c := h1.cell
  have h1f := h1.fro
  rw [HSL.out] at h1c
  obtain ⟨hcut, hcg⟩ := h1.cut n (by rw [HSL.out]; omega)
  have HC := Lib.hid hcut
  have F2 : Hid (Fr2 w (w1.setCell ⟨H, 0, none⟩ (.slice (some ⟨g, 0, none⟩) n c)) H g) := F1.out.trans (Fr2.of' hcg)
  have HLT : Hid (((swapL xs 0 n).take n).length = n) := by show _ = _; rw [List.length_take, HSL.out]; omega
  generalize (swapL xs 0 n).take n = zs at *
  clear hg h1 hcut hcg HSW HH hc c0 f0 HSL F1
  go_wp2_with fail
  generalize w1.setCell ⟨H, 0, none⟩ (.slice (some ⟨g, 0, none⟩) n c) = w2 at *
  clear h1c h1f hw1 hn1 hsl
  go_loopw [5] (fun v wr => ∃ (i : Nat) (ys : List Int), v = .int .i64 (i : Int) ∧ (i < n ∨ n = 0 ∧ i = 0) ∧ ys.length = n ∧ DownOk ys i ∧ (ys ++ [x]).Perm xs ∧ HeapAt wr H base g c ys ∧ Fr2 w wr H g) (fun v _ => n - (intOf v).toNat)
  case atStart => exact ⟨0, zs, rfl, by omega, HLT.out, HD.out, HP.out, HC.out, F2.out⟩
  case round =>
    clear HD HP HC F2
    obtain ⟨i, ys, rfl, hi, hyl, hd, hp, hh, hf⟩ := hrel
    have HD := Lib.hid hd
    have HP := Lib.hid hp
    have HA := Lib.hid hh
    have HF := Lib.hid hf
    have HYL := Lib.hid hyl
    have HX := Lib.hid hi
    clear hd hp hh hf hi
    have hin : i ≤ 100000000 := by have := HX.out; omega
    have t1 := two_of i 1 (by omega) (by omega)
    have t2 := two_of i 2 (by omega) (by omega)
    have t0 : wrap64 (2 * (i : Int)) = 2 * (i : Int) := IntWalk.wrap64_in _ (by omega)
    have t1b : wrap64 (2 * (i : Int) + 1) = 2 * (i : Int) + 1 := IntWalk.wrap64_in _ (by omega)
    have t2b : wrap64 (2 * (i : Int) + 2) = 2 * (i : Int) + 2 := IntWalk.wrap64_in _ (by omega)
    clear t1 t2
    go_wp2_with fail
    refine (lesser_at H base g c ys i (2 * i + 1) _ _ rfl (by omega) wr HA.out (by have := HX.out; have := HYL.out; omega)).mono ?_
    rintro e w3 ⟨rfl, h3, g3⟩
    have H3 := Lib.hid h3
    have F3 : Hid (Fr2 w w3 H g) := HF.out.trans (Fr2.of g3)
    obtain ⟨r, hr⟩ : ∃ r, lesserL ys i (2 * i + 1) = r := ⟨_, rfl⟩
    have hrn : r < n ∨ (n = 0 ∧ r = 0) := by
      have h1 := HX.out
      have h2 := HYL.out
      unfold lesserL at hr
      split at hr <;> omega
    rw [hr]
    have HR := Lib.hid hr
    have HRN := Lib.hid hrn
    clear h3 g3 HF HA hr hrn
    go_wp2_with fail
    refine (lesser_at H base g c ys r (2 * i + 2) _ _ rfl (by omega) w3 H3.out (by have := HRN.out; have := HYL.out; omega)).mono ?_
    rintro e w4 ⟨rfl, h4, g4⟩
    have H4 := Lib.hid h4
    have F4 : Hid (Fr2 w w4 H g) := F3.out.trans (Fr2.of g4)
    obtain ⟨m, hm⟩ : ∃ m, lesserL ys r (2 * i + 2) = m := ⟨_, rfl⟩
    have HLM : Hid (leastL ys i = m) := by show _ = _; unfold leastL; rw [HR.out, hm]
    rw [hm]
    clear h4 g4 hm H3 F3
    by_cases hmi : m = i
    · subst hmi
      have HOK : Hid (HeapOk ys) := down_done HD.out HLM.out
      go_wp2_with fail
      go_ret
      exact ⟨rfl, ys, H4.out, HOK.out, HYL.out, HP.out, F4.out⟩
    · have e1 : ¬ (m : Int) = (i : Int) := by omega
      have e2 : ((m : Int) == (i : Int)) = false := beq_eq_false_iff_ne.2 e1
      have hil : i < ys.length := by
        have h1 := HX.out
        have h2 := HYL.out
        have h3 := (least_le ys i).2.2.2
        rw [HLM.out] at h3
        omega
      obtain ⟨d1, d2, d3⟩ := down_step HD.out hil (by rw [HLM.out]; exact hmi)
      rw [HLM.out] at d1 d2 d3
      have HD1 := Lib.hid d1
      have HP1 : Hid ((swapL ys i m ++ [x]).Perm xs) := ((swapL_perm ys i m hil d2).append_right [x]).trans HP.out
      have HL1 : Hid ((swapL ys i m).length = n) := by show _ = _; rw [swapL_len]; exact HYL.out
      have HM1 : Hid (m < n ∨ n = 0 ∧ m = 0) := .inl (by have := HYL.out; omega)
      have HSW := Lib.hid (swap_all H base g c ys i m w4 H4.out hil d2)
      have hmm : n - m < n - i := by have := HYL.out; omega
      clear d1 d2 hil HD HP HX HR HRN HLM
      go_wp2_with fail
      refine HSW.out.mono ?_
      rintro e w5 ⟨rfl, h5, g5⟩
      have H5 := Lib.hid h5
      have F5 : Hid (Fr2 w w5 H g) := F4.out.trans (Fr2.of g5)
      clear h5 g5 H4 F4 HSW
      go_wp2_with fail
      exact ⟨⟨m, swapL ys i m, rfl, HM1.out, HL1.out, HD1.out, HP1.out, H5.out, F5.out⟩, by simpa [intOf] using hmm⟩
end Go.Proofs.Ythadgepihjigeaa
