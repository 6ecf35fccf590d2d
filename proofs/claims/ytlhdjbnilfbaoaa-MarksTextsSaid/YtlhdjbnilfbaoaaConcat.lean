/- Grow of nil, Concat of two, of pairs: the walks. -/
import Derived.Test.YtlhdjbnilfbaoaaClone
namespace Go.Proofs.Ytlhdjbnilfbaoaa
open Go.RowKit
set_option linter.unusedVariables false
theorem slice_pairs (a : Option Addr) (m cap hi : Nat) (h2 : hi ≤ cap) (w : World) :
    (Instr.sliceAt 24 (.slice a m cap) none (some (.int .i64 (hi : Int))) none).run Try.prog w = .ok (.slice a hi cap) w := by
  have hsz : ∀ W : World, (sizeOf (Try.prog.elem 24)).run Try.prog W = .ok 40 W := fun W => by kernel_rfl
  have h0 : ∀ x : Addr, x.add 0 = x := fun x => by unfold Addr.add; simp
  rw [run_sliceAt_slice w 24 _ _ _ _ (by kernel_rfl), run_slice_h w 24 a m cap (by kernel_rfl) .i64 (hi : Int) (by omega) (by omega), hsz]
  simp [Result.andThen_ok, sliced, h0]
theorem own_zeros (w : World) (n : Nat) (hn : n ≤ 10000000) : ∃ c, grownCap w n 0 46 = c ∧ n ≤ c ∧
    OwnP 46 (w.drew.alloc (.cells (Builtin.zeroCells (Value.agg (V8 noPair)).cells n ++ Builtin.zeroCells (Value.agg (V8 noPair)).cells (c - n)) 46)) w.heap.size (.slice (some ⟨w.heap.size, 0, none⟩) 0 c) [] := by
  have hge := grownCap_ge w n 0 46
  have hcm : grownCap w n 0 46 ≤ maxLen := grownCap_le_maxLen w n 0 46 (by unfold maxLen; omega)
  refine ⟨_, rfl, hge, ⟨rfl, .inr ⟨w.heap.size, _, _, rfl, Nat.le_refl _, heap_alloc_new w.drew _, Nat.zero_le _, hcm, ?_, by simp [flat, U8]⟩⟩, by simp⟩
  have e40 : (Value.agg (V8 noPair)).cells.size = 40 := by show (V8 noPair).size = 40; rw [V8_size, noPair_len]
  rw [Array.size_append, size_zeroCells, size_zeroCells, e40, ← Nat.add_mul]
  congr 1
  omega
set_option maxRecDepth 100000 in
set_option maxHeartbeats 4000000 in
theorem grow_nil (n : Nat) (h0 : 0 < n) (hn : n ≤ 10000000) (w : World) :
    Calls Try.prog 40 #[.slice none 0 0, .int .i64 (n : Int)] w fun e w' => (∃ g c, e = .returned (.slice (some ⟨g, 0, none⟩) 0 c) ∧ OwnP 46 w' w.heap.size (.slice (some ⟨g, 0, none⟩) 0 c) []) ∧ Below w.heap.size w w' := by
  obtain ⟨i, hi, hz0, hz1, hz2⟩ := parts
  obtain ⟨c, hc, hnc, hown⟩ := own_zeros w n hn
  have hra := fun ty => Lib.run_append_nil_zeros (P := Try.prog) w 24 3 ty 46 i (.agg (V8 noPair)) .i64 .i64 Try.underlying24 Try.underlying3 hi hz0 n h0 (by omega) (by omega) (by rw [hz2]; omega)
  rw [hc] at hra
  have HM := Lib.hid hown
  have HB : Hid (Below w.heap.size w (w.drew.alloc (.cells (Builtin.zeroCells (Value.agg (V8 noPair)).cells n ++ Builtin.zeroCells (Value.agg (V8 noPair)).cells (c - n)) 46))) := (Below.refl _ _).drew.alloc (Nat.le_refl _) _
  clear hown hc
  generalize w.drew.alloc (.cells (Builtin.zeroCells (Value.agg (V8 noPair)).cells n ++ Builtin.zeroCells (Value.agg (V8 noPair)).cells (c - n)) 46) = W1 at *
  have n1 : ¬ (n : Int) < 0 := by omega
  have n2 : (n : Int) > 0 := by omega
  have n3 : (0 : Int) < n := by omega
  have hw0 : wrap64 (n : Int) = n := IntWalk.wrap64_in _ (by omega)
  have HRA := Lib.hid hra
  have hsl := fun g W => slice_pairs (some ⟨g, 0, none⟩) n c 0 (Nat.zero_le _) W
  clear hra
  go_enter Try.func40, Try.ntmps40
  have tok : True := trivial
  go_wp2_with (
    have _t := tok
    at_builtin
    refine Lib.wpList_append_run _ rfl _ _ _ _ rfl _ _ rfl rfl _ _ (HRA.out _) ?_
    clear tok
    refine Hid.out ?_)
  refine unhid ?_
  go_wp2_with fail
  go_ret
  exact ⟨⟨_, _, rfl, HM.out⟩, HB.out⟩
def catN (n m : Nat) : Nat → Nat
  | 0 => 0
  | 1 => n
  | _ => n + m
def catL (xs ys : List (List Int)) : Nat → List (List Int)
  | 0 => []
  | 1 => xs
  | _ => xs ++ ys
theorem catL_len (xs ys : List (List Int)) (n m k : Nat) (h1 : xs.length = n) (h2 : ys.length = m) : (catL xs ys k).length = catN n m k := by
  match k with
  | 0 => rfl
  | 1 => exact h1
  | k + 2 => show (xs ++ ys).length = n + m; rw [List.length_append, h1, h2]
set_option maxRecDepth 100000 in
set_option maxHeartbeats 4000000 in
theorem concat_any (g : Nat) (a b : Option Addr) (n m c d : Nat) (xs ys : List (List Int)) (w : World) (k0 : w.cell? ⟨g, 0, none⟩ = some (.slice a n c)) (k1 : w.cell? ⟨g, 1, none⟩ = some (.slice b m d)) (H1 : PsAt w a xs) (H2 : PsAt w b ys) (hxn : xs.length = n) (hym : ys.length = m) (hn : n ≤ 1000000) (hm : m ≤ 1000000) (h0 : 0 < n + m) (hnil : a = none → c = 0) (hnil2 : b = none → d = 0) :
    Calls Try.prog 33 #[.slice (some ⟨g, 0, none⟩) 2 2] w fun e w' => (∃ v, e = .returned v ∧ OwnP 46 w' w.heap.size v (xs ++ ys)) ∧ Below w.heap.size w w' := by
  have hg : g < w.heap.size := World.block_lt_of_cell? w _ k0
  have HX := Lib.hid H1
  have HY := Lib.hid H2
  have HXN := Lib.hid hxn
  have HYM := Lib.hid hym
  have K0 := Lib.hid k0
  have K1 := Lib.hid k1
  have N1 := Lib.hid hnil
  have N2 := Lib.hid hnil2
  have w1b : wrap64 (n : Int) = n := IntWalk.wrap64_in _ (by omega)
  have w2 : wrap64 ((n : Int) + (m : Int)) = ((n + m : Nat) : Int) := by
    rw [show (n : Int) + (m : Int) = ((n + m : Nat) : Int) by omega]
    exact IntWalk.wrap64_in _ (by omega)
  have HS : Hid (n + m ≤ 2000000) := by show _ ≤ _; omega
  have H0 := Lib.hid h0
  obtain ⟨t, ht⟩ : ∃ t, n + m = t := ⟨_, rfl⟩
  have HT := Lib.hid ht
  rw [ht] at w2 HS H0
  have n1 : ¬ (n : Int) < 0 := by omega
  have n2 : ¬ (t : Int) < 0 := by omega
  clear H1 H2 h0 ht hn hm hxn hym hnil hnil2
  go_enter Try.func33, Try.ntmps33
  go_wp2_with fail
  go_loop [3, 11] (fun s i => ∃ k : Nat, k ≤ 2 ∧ i = .int .i64 (k : Int) ∧ s = .int .i64 ((catN n m k : Nat) : Int)) (fun s i => 2 - (intOf i).toNat)
  case atStart => exact ⟨0, by omega, rfl, rfl⟩
  case round =>
    obtain ⟨k, hk, rfl, rfl⟩ := hrel
    obtain rfl | rfl | rfl : k = 0 ∨ k = 1 ∨ k = 2 := by omega
    · rw [show catN n m 0 = 0 from rfl]
      go_wp2_with fail
      exact ⟨⟨1, by omega, rfl, congrArg (Value.int .i64) w1b⟩, by simp [intOf]⟩
    · rw [show catN n m 1 = n from rfl]
      go_wp2_with fail
      exact ⟨⟨2, by omega, rfl, by rw [show catN n m 2 = n + m from rfl, HT.out]; exact congrArg (Value.int .i64) w2⟩, by simp [intOf]⟩
    · rw [show catN n m 2 = n + m from rfl, HT.out]
      clear w1b w2 n1
      go_wp2_with fail
      refine (grow_nil t H0.out (by have := HS.out; omega) w).mono ?_
      rintro e w3 ⟨⟨gr, gc, rfl, hmid⟩, hb⟩
      have HM := Lib.hid hmid
      have HB := Lib.hid hb
      clear hmid hb k0 k1
      go_wp2_with fail
      go_loopw [6, 27] (fun v i wr => ∃ (k : Nat), k ≤ 2 ∧ i = .int .i64 (k : Int) ∧ OwnP 46 wr w.heap.size v (catL xs ys k) ∧ Below w.heap.size w wr) (fun v i wr => 2 - (intOf i).toNat)
      case atStart => exact ⟨0, by omega, rfl, HM.out, HB.out⟩
      case round =>
        rename Value => vv
        clear HM HB
        obtain ⟨k, hk, rfl, hmid, hb⟩ := hrel
        obtain ⟨va, vc, rfl, -⟩ := hmid.at
        rw [catL_len xs ys n m k HXN.out HYM.out] at hmid
        have HM := Lib.hid hmid
        have HB := Lib.hid hb
        have k0 := (hb.cell (p := ⟨g, 0, none⟩) hg).trans K0.out
        have k1 := (hb.cell (p := ⟨g, 1, none⟩) hg).trans K1.out
        clear hmid hb
        rw [catL_len xs ys n m k HXN.out HYM.out]
        have tok : True := trivial
        obtain rfl | rfl | rfl : k = 0 ∨ k = 1 ∨ k = 2 := by omega
        · rw [show catN n m 0 = 0 from rfl] at HM ⊢
          go_wp2_with (have _t := tok; at_builtin; clear tok; refine Hid.out ?_)
          refine unhid ?_
          refine wpList_append_pairs rfl _ _ rfl w.heap.size (.slice va 0 vc) [] rfl HM.out a n c xs HXN.out rfl (HX.out.below HB.out) N1.out (by have := HS.out; have := HT.out; have := HXN.out; simp; omega) HB.out.size ?_
          intro v4 w4 ho hg4
          have HO := Lib.hid ho
          have HB4 : Hid (Below w.heap.size w w4) := HB.out.grown hg4 HB.out.size (fun g hg => (HM.out.lt hg).1)
          clear ho hg4
          go_wp2_with fail
          exact ⟨⟨1, by omega, rfl, HO.out, HB4.out⟩, by simp [intOf]⟩
        · rw [show catN n m 1 = n from rfl] at HM ⊢
          go_wp2_with (have _t := tok; at_builtin; clear tok; refine Hid.out ?_)
          refine unhid ?_
          refine wpList_append_pairs rfl _ _ rfl w.heap.size (.slice va n vc) xs rfl HM.out b m d ys HYM.out rfl (HY.out.below HB.out) N2.out (by have := HS.out; have := HT.out; have := HXN.out; have := HYM.out; omega) HB.out.size ?_
          intro v4 w4 ho hg4
          have HO := Lib.hid ho
          have HB4 : Hid (Below w.heap.size w w4) := HB.out.grown hg4 HB.out.size (fun g hg => (HM.out.lt hg).1)
          clear ho hg4
          go_wp2_with fail
          exact ⟨⟨2, by omega, rfl, HO.out, HB4.out⟩, by simp [intOf]⟩
        · go_wp2_with fail
          go_ret
          exact ⟨⟨_, rfl, HM.out⟩, HB.out⟩
end Go.Proofs.Ytlhdjbnilfbaoaa
