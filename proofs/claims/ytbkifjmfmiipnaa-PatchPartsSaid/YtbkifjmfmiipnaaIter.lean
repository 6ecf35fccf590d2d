/- The hunks of a patch, told one by one. -/
import Derived.RangeFuncNested
import Derived.RangeFuncBound
import Derived.RangeFuncCalls
import Derived.RangeFuncLeaves
import Derived.RangeFuncBox
import Derived.Shelf.Abstract
import Derived.OwnWalkIn
import Derived.TacticsInMore
import Derived.LoopNIn
import Derived.LoopIn
import Derived.Deep.RegionHeld3
import Derived.Test.YtbkifjmfmiipnaaNum
import Derived.Test.YtbkifjmfmiipnaaSub
namespace Go.Proofs.Ytbkifjmfmiipnaa
open Go.RowKit Plain Go.Shelf
set_option linter.unusedVariables false
attribute [local go_sem] Oper.semAt_some
/-- What a round is handed. -/
structure Raw where
  fr : Nat
  to : Nat
  a : Option Addr
  n : Nat
  c : Nat
  ys : List Int
  e : Nat
def RawOk (w : World) (lim : Nat) (r : Raw) : Prop :=
  (r.e = 3) ∨ (r.e = 0 ∧ r.fr < 4294967296 ∧ r.to < 4294967296 ∧ r.n ≤ lim ∧ r.n ≤ r.c ∧ (r.a = none → r.c = 0) ∧ Bytes w r.a r.n r.ys)
def rawHk (r : Raw) : Option Hk := if r.e = 0 then some ⟨r.fr, r.to, r.ys⟩ else none
def Raws (w : World) (lim : Nat) : Type := { r : Raw // RawOk w lim r }
def rawVals {w : World} {lim : Nat} (r : Raws w lim) : Array Value := #[.agg #[.int .i64 (r.1.fr : Int), .int .i64 (r.1.to : Int), .slice r.1.a r.1.n r.1.c], .int .i64 (r.1.e : Int)]
def hks {w : World} {lim : Nat} (l : List (Raws w lim)) : List (Option Hk) := l.map fun r => rawHk r.1
set_option maxRecDepth 100000 in
set_option maxHeartbeats 4000000 in
theorem hunks1_in (n : Nat) (hn : 1 ≤ n) (l Bn n₀ : Nat) (a : Option Addr) (m cap : Nat) (xs : List Int) (w : World) (hmc : m ≤ cap) (hnil : a = none → cap = 0) (hlim : m ≤ 1000000) (HB : Bytes w a m xs) (hn₀ : n₀ = w.heap.size)
    (J Jx : List (Raws w m) → World → Prop)
    (hY : ∀ pre x W, J pre W → pre.length < xs.length + 1 → YieldAt Fence.wide (n - 1) Try.prog l (rawVals x) W fun e W' =>
      (e = .returned (.bool true) ∧ J (pre ++ [x]) W' ∧ Below n₀ W W') ∨ (e = .returned (.bool false) ∧ Jx (pre ++ [x]) W'))
    (hJG : ∀ pre W W', J pre W → W.grownBy W' none → J pre W') (W : World) (hW : Below n₀ w W) (hBn : W.cell? ⟨Bn, 0, none⟩ = some (.slice a m cap)) (h0 : J [] W) :
    CallsIn Fence.wide n Try.prog 23 #[.func (.yield l) #[] #[], .pointer (some ⟨Bn, 0, none⟩)] W fun e W' => (∃ v, e = .returned v) ∧
      ((∃ ys, hks ys = hunksOf xs ∧ J ys W') ∨ (∃ pre, hks pre <+: hunksOf xs ∧ Jx pre W')) := by
  refine callsIn_of_wp Try.func23 rfl trivial ?_ rfl
  simp only [Try.ntmps23, List.size_toArray, List.length_cons, List.length_nil, Nat.reduceAdd, Nat.reduceSub, Array.replicate_succ, Array.replicate_zero, List.push_toArray, List.append_toArray, List.nil_append, List.cons_append]
  subst hn₀
  have HJG : Hid (∀ pre W W', J pre W → W.grownBy W' none → J pre W') := hJG
  clear hJG
  gi_wp2
  gi_loopw [3] (fun v wr => ∃ (pre : List (Raws w m)) (f : Nat) (a' : Option Addr) (m' c' : Nat) (rest : List Int), v = .slice a' m' c' ∧ m' ≤ c' ∧ (a' = none → c' = 0) ∧ Bytes w a' m' rest ∧ rest.length ≤ f ∧ pre.length + rest.length ≤ xs.length ∧ hunksOf xs = hks pre ++ hunksF f rest ∧ Below w.heap.size w wr ∧ J pre wr) (fun v _ => sizeV v)
  case atStart => exact ⟨[], xs.length, a, m, cap, xs, rfl, hmc, hnil, HB, Nat.le_refl _, by simp, rfl, hW, h0⟩
  case round =>
    obtain ⟨pre, f, a', m', c', rest, rfl, hmc', hnil', hB', hf, hpl, hhk, hbel, hJ⟩ := hrel
    have HB' : Hid (Bytes w a' m' rest) := hB'
    have HNIL : Hid (a' = none → c' = 0) := hnil'
    have HHK : Hid (hunksOf xs = hks pre ++ hunksF f rest) := hhk
    have HBE : Hid (Below w.heap.size w wr) := hbel
    have HJ : Hid (J pre wr) := hJ
    have HRL : Hid (rest.length = m') := hB'.1
    have HY : Hid (∀ pre x W, J pre W → pre.length < xs.length + 1 → YieldAt Fence.wide (n - 1) Try.prog l (rawVals x) W fun e W' =>
      (e = .returned (.bool true) ∧ J (pre ++ [x]) W' ∧ Below w.heap.size W W') ∨ (e = .returned (.bool false) ∧ Jx (pre ++ [x]) W')) := hY
    have hrl := hB'.1
    have HXL : Hid (xs.length = m) := HB.1
    clear hB' hnil' hhk hbel hJ
    by_cases hm0 : m' = 0
    · subst hm0
      have e0 : hunksF f rest = [] := by
        obtain rfl : rest = [] := List.eq_nil_of_length_eq_zero hrl
        exact hunksF_nil f
      gi_wp2
      go_end0
      exact ⟨⟨_, rfl⟩, .inl ⟨pre, by rw [HHK.out, e0, List.append_nil], HJ.out⟩⟩
    · obtain ⟨f', rfl⟩ : ∃ f', f = f' + 1 := ⟨f - 1, by omega⟩
      have hm1 : 0 < (m' : Int) := by omega
      by_cases h12 : m' < 12
      · have e1 : hunksF (f' + 1) rest = [none] := by
          rw [hunksF, if_neg (by omega), if_pos (by omega)]
        have i12 : (m' : Int) < 12 := by omega
        obtain ⟨x, hx⟩ : ∃ x : Raws w m, x = ⟨⟨0, 0, none, 0, 0, [], 3⟩, .inl rfl⟩ := ⟨_, rfl⟩
        have hxv : rawVals x = #[.agg #[.int .i64 0, .int .i64 0, .slice none 0 0], .int .i64 3] := by rw [hx]; rfl
        have hxh : hks (pre ++ [x]) = hks pre ++ [none] := by rw [hx]; unfold hks; rw [List.map_append]; rfl
        obtain ⟨fn, tmps, assign, body, hy, hR⟩ := HY.out pre x wr HJ.out (by omega)
        rw [hxv] at hy
        clear hx
        gi_wp2
        refine hR.mono ?_
        rintro e W3 (⟨rfl, hJ3, hk3⟩ | ⟨rfl, hJx3⟩)
        · gi_wp2
          refine bodyPost_ret (results_none rfl _ _ _) rfl ?_
          exact ⟨⟨_, rfl⟩, .inl ⟨pre ++ [x], by rw [hxh, HHK.out, e1], hJ3⟩⟩
        · gi_wp2
          refine bodyPost_ret (results_none rfl _ _ _) rfl ?_
          exact ⟨⟨_, rfl⟩, .inr ⟨pre ++ [x], by rw [hxh, HHK.out, e1]; exact List.prefix_refl _, hJx3⟩⟩
      · obtain ⟨q, rfl⟩ : ∃ q, m' = q + 12 := ⟨m' - 12, by omega⟩
        have i12 : ¬ ((q + 12 : Nat) : Int) < 12 := by omega
        have s1 : ∀ W, (Instr.sliceAt 22 (.slice a' (q + 12) c') none (some (.int .i64 12)) none).run Try.prog W = .ok (.slice a' 12 c') W := fun W => slice_to a' (q + 12) c' 12 (by omega) W
        have s2 : ∀ W, (Instr.sliceAt 22 (.slice a' (q + 12) c') (some (.int .i64 12)) none none).run Try.prog W = .ok (.slice (subA a' c' 12) q (c' - 12)) W := fun W => slice_from a' (q + 12) c' 12 (by omega) hmc' W
        gi_wp2
        refine wpIn_wide.2 ?_
        go_region_held3 (fun _ => True) (trivial) (fail)
        clear s1 s2
        have s3 : ∀ W, (Instr.sliceAt 22 (.slice a' 12 c') (some (.int .i64 8)) none none).run Try.prog W = .ok (.slice (subA a' c' 8) 4 (c' - 8)) W := fun W => slice_from a' 12 c' 8 (by omega) (by omega) W
        have HD : Hid (Below w.heap.size w wr.drew) := HBE.out.drew
        have HQ : Hid (Bytes w (subA a' c' 8) 4 (sub rest 8 4)) := HB'.out.part c' 8 12 (by omega) (by omega) (by omega)
        have HNL : Hid (∀ o, o + 4 ≤ 12 → num (sub rest o 4) < 4294967296) := fun o ho => num_lt 4 _ (by simp [sub]; omega) (fun x hx => getD_bytes4 HB'.out x (List.mem_of_mem_drop (List.mem_of_mem_take hx)))
        have hnn := HNL.out 8 (by omega)
        obtain ⟨nn, hn8⟩ : ∃ nn, num (sub rest 8 4) = nn := ⟨_, rfl⟩
        have HN8 : Hid (num (sub rest 8 4) = nn) := hn8
        have HF : Hid (∀ W, Below w.heap.size w W → CallsIn Fence.wide (n - 1) Try.prog 24 #[.slice (subA a' c' 8) 4 (c' - 8)] W fun e w' => e = .returned (.int .u64 (nn : Int)) ∧ w' = W) := fun W hW => by
          rw [← hn8]; exact callsIn_wide.2 (fromBe_any _ _ _ W (by omega) (HQ.out.below hW))
        rw [hn8] at hnn
        clear hn8
        have c0 : 1 ≤ n := hn
        by_cases hgt : q < nn
        · have ig : (q : Int) < (nn : Int) := by omega
          have e1 : hunksF (f' + 1) rest = [none] := by
            rw [hunksF, if_neg (by omega), if_neg (by omega), HN8.out, if_pos (by omega)]
          obtain ⟨x, hx⟩ : ∃ x : Raws w m, x = ⟨⟨0, 0, none, 0, 0, [], 3⟩, .inl rfl⟩ := ⟨_, rfl⟩
          have hxv : rawVals x = #[.agg #[.int .i64 0, .int .i64 0, .slice none 0 0], .int .i64 3] := by rw [hx]; rfl
          have hxh : hks (pre ++ [x]) = hks pre ++ [none] := by rw [hx]; unfold hks; rw [List.map_append]; rfl
          obtain ⟨fn, tmps, assign, body, hy, hR⟩ := HY.out pre x wr.drew (HJG.out _ _ _ HJ.out ⟨rfl, rfl, rfl, Nat.le_refl _, fun _ _ _ => rfl⟩) (by omega)
          rw [hxv] at hy
          clear hx
          gi_wp2_with (refine ⟨trivial, ?_⟩; gi_at_call 24; refine (HF.out _ HD.out).mono ?_; rintro e w' ⟨rfl, rfl⟩)
          refine hR.mono ?_
          rintro e W3 (⟨rfl, hJ3, hk3⟩ | ⟨rfl, hJx3⟩)
          · gi_wp2
            refine bodyPost_ret (results_none rfl _ _ _) rfl ?_
            exact ⟨⟨_, rfl⟩, .inl ⟨pre ++ [x], by rw [hxh, HHK.out, e1], hJ3⟩⟩
          · gi_wp2
            refine bodyPost_ret (results_none rfl _ _ _) rfl ?_
            exact ⟨⟨_, rfl⟩, .inr ⟨pre ++ [x], by rw [hxh, HHK.out, e1]; exact List.prefix_refl _, hJx3⟩⟩
        · have ig : ¬ (q : Int) < (nn : Int) := by omega
          have hnq : nn ≤ q := by omega
          gi_wp2_with (refine ⟨trivial, ?_⟩; gi_at_call 24; refine (HF.out _ HD.out).mono ?_; rintro e w' ⟨rfl, rfl⟩)
          clear s3
          have s4 : ∀ W, (Instr.sliceAt 22 (.slice a' 12 c') none (some (.int .i64 4)) none).run Try.prog W = .ok (.slice a' 4 c') W := fun W => slice_to a' 12 c' 4 (by omega) W
          have s5 : ∀ W, (Instr.sliceAt 22 (.slice a' 12 c') (some (.int .i64 4)) (some (.int .i64 8)) none).run Try.prog W = .ok (.slice (subA a' c' 4) 4 (c' - 4)) W := fun W => slice_sub a' 12 c' 4 8 (by omega) (by omega) W
          have s6 : ∀ W, (Instr.sliceAt 22 (.slice (subA a' c' 12) q (c' - 12)) none (some (.int .i64 (nn : Int))) none).run Try.prog W = .ok (.slice (subA a' c' 12) nn (c' - 12)) W := fun W => slice_to _ q _ nn (by omega) W
          have HQ0 : Hid (Bytes w a' 4 (sub rest 0 4)) := by
            have := HB'.out.first 4
            rw [show min (q + 12) 4 = 4 by omega] at this
            show Bytes w a' 4 (sub rest 0 4)
            simpa [sub] using this
          have HQ4 : Hid (Bytes w (subA a' c' 4) 4 (sub rest 4 4)) := HB'.out.part c' 4 8 (by omega) (by omega) (by omega)
          obtain ⟨a4, ea4⟩ : ∃ x, subA a' c' 4 = x := ⟨_, rfl⟩
          rw [ea4] at HQ4
          have s5' : ∀ W, (Instr.sliceAt 22 (.slice a' 12 c') (some (.int .i64 4)) (some (.int .i64 8)) none).run Try.prog W = .ok (.slice a4 4 (c' - 4)) W := fun W => by rw [← ea4]; exact s5 W
          clear s5 ea4
          have hn0 := HNL.out 0 (by omega)
          have hn4 := HNL.out 4 (by omega)
          obtain ⟨n0, en0⟩ : ∃ k, num (sub rest 0 4) = k := ⟨_, rfl⟩
          obtain ⟨n4, en4⟩ : ∃ k, num (sub rest 4 4) = k := ⟨_, rfl⟩
          have HN0 : Hid (num (sub rest 0 4) = n0) := en0
          have HN4 : Hid (num (sub rest 4 4) = n4) := en4
          have HF0 : Hid (∀ W, Below w.heap.size w W → Calls Try.prog 24 #[.slice a' 4 c'] W fun e w' => e = .returned (.int .u64 (n0 : Int)) ∧ w' = W) := fun W hW => by
            rw [← en0]; exact fromBe_any _ _ _ W (by omega) (HQ0.out.below hW)
          have HF4 : Hid (∀ W, Below w.heap.size w W → Calls Try.prog 24 #[.slice a4 4 (c' - 4)] W fun e w' => e = .returned (.int .u64 (n4 : Int)) ∧ w' = W) := fun W hW => by
            rw [← en4]; exact fromBe_any _ _ _ W (by omega) (HQ4.out.below hW)
          rw [en0] at hn0
          rw [en4] at hn4
          clear en0 en4
          have wi0 : IntKind.i64.wrap (n0 : Int) = n0 := IntWalk.i64_in _ (by omega)
          have wi4 : IntKind.i64.wrap (n4 : Int) = n4 := IntWalk.i64_in _ (by omega)
          obtain ⟨a12, ea12⟩ : ∃ x, subA a' c' 12 = x := ⟨_, rfl⟩
          have HB12 : Hid (Bytes w (subA a' c' 12) q (rest.drop 12)) := by
            have := HB'.out.part c' 12 (q + 12) (by omega) (by omega) (by omega)
            rw [show q + 12 - 12 = q by omega, List.take_of_length_le (by simp; omega)] at this
            exact this
          have HN12 : Hid (subA a' c' 12 = none → c' - 12 = 0) := subA_nil HNIL.out
          rw [ea12] at HB12 HN12 s6 ⊢
          clear ea12
          have HBX : Hid (Bytes w a12 nn (sub rest 12 nn)) := by
            have := HB12.out.first nn
            rw [show min q nn = nn by omega] at this
            exact this
          have HBY : Hid (Bytes w (subA a12 (c' - 12) nn) (q - nn) (rest.drop (12 + nn))) := by
            have := HB12.out.part (c' - 12) nn q hnq (by omega) (by omega)
            rw [List.drop_drop, List.take_of_length_le (by simp; omega)] at this
            exact this
          have HNY : Hid (subA a12 (c' - 12) nn = none → c' - 12 - nn = 0) := subA_nil HN12.out
          have s7 : ∀ W, (Instr.sliceAt 22 (.slice a12 q (c' - 12)) (some (.int .i64 (nn : Int))) none none).run Try.prog W = .ok (.slice (subA a12 (c' - 12) nn) (q - nn) (c' - 12 - nn)) W := fun W => slice_from a12 q (c' - 12) nn hnq (by omega) W
          have e1 : hunksF (f' + 1) rest = some ⟨n0, n4, sub rest 12 nn⟩ :: hunksF f' (rest.drop (12 + nn)) := by
            rw [hunksF, if_neg (by omega), if_neg (by omega), HN8.out, if_neg (by omega), HN0.out, HN4.out]
          have HE1 : Hid (hunksOf xs = (hks pre ++ [some ⟨n0, n4, sub rest 12 nn⟩]) ++ hunksF f' (rest.drop (12 + nn))) := by
            show _ = _
            rw [HHK.out, e1]; simp
          obtain ⟨x, hx⟩ : ∃ x : Raws w m, x = ⟨⟨n0, n4, a12, nn, c' - 12, sub rest 12 nn, 0⟩, .inr ⟨rfl, hn0, hn4, by show nn ≤ m; have := HXL.out; omega, by show nn ≤ c' - 12; omega, HN12.out, HBX.out⟩⟩ := ⟨_, rfl⟩
          have hxv : rawVals x = #[.agg #[.int .i64 (n0 : Int), .int .i64 (n4 : Int), .slice a12 nn (c' - 12)], .int .i64 0] := by rw [hx]; rfl
          have HXH : Hid (hks (pre ++ [x]) = hks pre ++ [some ⟨n0, n4, sub rest 12 nn⟩]) := by show _ = _; rw [hx]; unfold hks; rw [List.map_append]; rfl
          have hG8 : wr.grownBy (wr.alloc (.cells #[.int .i64 (n0 : Int), .int .i64 (n4 : Int), .slice a12 nn (c' - 12)] 48)).drew.drew none := by
            have := World.grownBy_alloc wr (.cells #[.int .i64 (n0 : Int), .int .i64 (n4 : Int), .slice a12 nn (c' - 12)] 48) none
            exact ⟨this.os, this.tape, this.output, this.size, this.block⟩
          have HB8 : Hid (Below w.heap.size w (wr.alloc (.cells #[.int .i64 (n0 : Int), .int .i64 (n4 : Int), .slice a12 nn (c' - 12)] 48)).drew.drew) := (HBE.out.alloc HBE.out.size _).drew.drew
          have HR8 : Hid ((wr.alloc (.cells #[.int .i64 (n0 : Int), .int .i64 (n4 : Int), .slice a12 nn (c' - 12)] 48)).drew.drew.heap[wr.heap.size]? = some (.cells #[.int .i64 (n0 : Int), .int .i64 (n4 : Int), .slice a12 nn (c' - 12)] 48 (0, 0))) := heap_alloc_new wr _
          obtain ⟨fn, tmps, assign, body, hy, hR⟩ := HY.out pre x _ (HJG.out _ _ _ HJ.out hG8) (by omega)
          rw [hxv] at hy
          clear hx e1 hG8
          refine wpIn_wide.2 ?_
          go_region_held3 (fun W => Below w.heap.size w W) (first | exact HD.out.drew | assumption | exact (HBE.out.alloc HBE.out.size _).drew.drew | (refine Below.alloc (by assumption) (Below.size (by assumption)) _) | go_keep)
            (first
              | (go_at_call_of 24 a'; refine (HF0.out _ (by assumption)).mono ?_; rintro e w' ⟨rfl, rfl⟩)
              | (go_at_call_of 24 a4; refine (HF4.out _ (by assumption)).mono ?_; rintro e w' ⟨rfl, rfl⟩))
          all_goals
            clear s4 s5' s6
            generalize (wr.alloc (.cells #[.int .i64 (n0 : Int), .int .i64 (n4 : Int), .slice a12 nn (c' - 12)] 48)).drew.drew = w8 at *
            have d0 : w8.cell? ⟨wr.heap.size, 0, none⟩ = some (.int .i64 (n0 : Int)) := by simp [World.cell?, HR8.out]
            have d1 : w8.cell? ⟨wr.heap.size, 1, none⟩ = some (.int .i64 (n4 : Int)) := by simp [World.cell?, HR8.out]
            have d2 : w8.cell? ⟨wr.heap.size, 2, none⟩ = some (.slice a12 nn (c' - 12)) := by simp [World.cell?, HR8.out]
            gi_wp2
            refine hR.mono ?_
            rintro e W3 (⟨rfl, hJ3, hk3⟩ | ⟨rfl, hJx3⟩)
            · gi_wp2
              go_roundw
              case rel => exact ⟨pre ++ [x], f', subA a12 (c' - 12) nn, q - nn, c' - 12 - nn, rest.drop (12 + nn), rfl, by omega, HNY.out, HBY.out, by simp; omega, by simp; omega, by rw [HXH.out]; exact HE1.out, HB8.out.trans (hk3.mono (Nat.le_refl _)), hJ3⟩
              case measure => simp [sizeV]; omega
            · gi_wp2
              refine bodyPost_ret (results_none rfl _ _ _) rfl ?_
              exact ⟨⟨_, rfl⟩, .inr ⟨pre ++ [x], by rw [HXH.out, HE1.out]; exact List.prefix_append _ _, hJx3⟩⟩
end Go.Proofs.Ytbkifjmfmiipnaa
