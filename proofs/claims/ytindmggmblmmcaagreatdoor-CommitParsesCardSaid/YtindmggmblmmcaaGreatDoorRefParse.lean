/- The document's reading of a text as a sum: the walk. -/
import Derived.Test.YtindmggmblmmcaaGreatDoorRefHex
import Derived.Test.YtindmggmblmmcaaGreatDoorChBase
namespace Go.Proofs.YtindmggmblmmcaaGreatDoor
open Go.RowKit Plain
set_option linter.unusedVariables false
theorem digit_same (n : Int) (w : World) (h : 0 ≤ n ∧ n < 16) : Calls Tryz.prog 65 #[.int .i64 n] w fun e w' => e = .returned (.int .u8 (hexD n.toNat : Nat)) ∧ w' = w :=
  (digit_any n w h).mono fun e w' h => ⟨h.1, h.2.symm⟩
theorem info24 (xs : List Int) (h : xs.length = 20) : (Tryz.prog.info? 22).map (·.size) = some (V8 xs).size := by
  rw [V8_size, h]; kernel_rfl
theorem zero_24 (w : World) : (zeroValue 22).run Tryz.prog w = .ok (.agg (V8 zeros20)) w := by
  show _ = Result.ok (Value.agg (List.replicate 20 (Value.int .u8 0)).toArray) w
  kernel_rfl
/-- Is the number of two digits' worth met below n? -/
def metTo (x0 x1 : Int) (n : Nat) : Bool := decide (0 ≤ x0 ∧ 0 ≤ x1 ∧ 16 * x0 + x1 < n)
def rowTo (s : ByteArray) (k n : Nat) : List Int := if metTo (nib (at8 s (2 * k))) (nib (at8 s (2 * k + 1))) n = true then valsTo s (k + 1) else valsTo s k
theorem rowTo_length (s : ByteArray) (k n : Nat) : (rowTo s k n).length = 20 := by unfold rowTo; split <;> exact valsTo_length _ _
theorem met_step (x0 x1 : Int) (n : Nat) (h0 : -1 ≤ x0 ∧ x0 ≤ 15) (h1 : -1 ≤ x1 ∧ x1 ≤ 15) (hn : n < 256) (hm : x0 = ((n / 16 : Nat) : Int) ∧ x1 = ((n % 16 : Nat) : Int)) : metTo x0 x1 n = false ∧ metTo x0 x1 (n + 1) = true ∧ 16 * x0 + x1 = (n : Int) := by
  unfold metTo
  refine ⟨?_, ?_, by omega⟩
  · simp; omega
  · simp; omega
theorem met_same (x0 x1 : Int) (n : Nat) (h0 : -1 ≤ x0 ∧ x0 ≤ 15) (h1 : -1 ≤ x1 ∧ x1 ≤ 15) (hm : ¬ (x0 = ((n / 16 : Nat) : Int) ∧ x1 = ((n % 16 : Nat) : Int))) : metTo x0 x1 (n + 1) = metTo x0 x1 n := by
  unfold metTo
  rw [decide_eq_decide]
  constructor
  · intro h
    refine ⟨h.1, h.2.1, ?_⟩
    have := h.2.2
    by_cases e : 16 * x0 + x1 = (n : Int)
    · exact absurd ⟨by omega, by omega⟩ hm
    · omega
  · intro h; refine ⟨h.1, h.2.1, by omega⟩
theorem met_all (x0 x1 : Int) (h0 : -1 ≤ x0 ∧ x0 ≤ 15) (h1 : -1 ≤ x1 ∧ x1 ≤ 15) : metTo x0 x1 256 = (decide (0 ≤ x0) && decide (0 ≤ x1)) := by
  unfold metTo
  rw [Bool.eq_iff_iff]
  simp
  omega
set_option maxRecDepth 100000 in
set_option maxHeartbeats 2000000 in
theorem refParse_any (s : ByteArray) (w : World) (hs : s.size ≤ 9223372036854775807) :
    Calls Tryz.prog 47 #[.string s] w fun e w' => e = .returned (.tuple #[.agg (V8 (parsed s)), .bool (isHex s)]) ∧ Below w.heap.size w w' := by
  have hz := zero_24
  obtain ⟨h0, h1, hbl, hsz⟩ := two_blocks w (.cells (V8 zeros20) 22) (.cells (V8 zeros20) 22)
  have H0 : Hid (((w.alloc (.cells (V8 zeros20) 22)).alloc (.cells (V8 zeros20) 22)).heap[w.heap.size]? = some (.cells (V8 zeros20) 22 (0, 0))) := h0
  have H1 : Hid (((w.alloc (.cells (V8 zeros20) 22)).alloc (.cells (V8 zeros20) 22)).heap[w.heap.size + 1]? = some (.cells (V8 zeros20) 22 (0, 0))) := h1
  have HBL : Hid (Below w.heap.size w ((w.alloc (.cells (V8 zeros20) 22)).alloc (.cells (V8 zeros20) 22))) := hbl
  clear h0 h1 hbl hsz
  have I20 : Hid (∀ xs : List Int, xs.length = 20 → (Tryz.prog.info? 22).map (·.size) = some (V8 xs).size) := info24
  have HZL : Hid (zeros20.length = 20) := rfl
  by_cases h40 : s.size = 40
  · have t40 : ((s.size : Int) != 40) = false := by simp; omega
    have H40 : Hid (s.size = 40) := h40
    clear h40
    go_enter Tryz.func47, Tryz.ntmps47
    go_wp2_with fail
    generalize ((w.alloc (.cells (V8 zeros20) 22)).alloc (.cells (V8 zeros20) 22)) = w0 at *
    clear t40
    go_loopw [5] (fun i wr => ∃ k : Nat, k ≤ 20 ∧ i = .int .i64 k ∧ goodTo s k = true ∧ wr.heap[w.heap.size]? = some (.cells (V8 zeros20) 22 (0, 0)) ∧ wr.heap[w.heap.size + 1]? = some (.cells (V8 (valsTo s k)) 22 (0, 0)) ∧ Below w.heap.size w wr) (fun i _ => 20 - (intOf i).toNat)
    case atStart => exact ⟨0, by omega, rfl, rfl, H0.out, by rw [valsTo_zero]; exact H1.out, HBL.out⟩
    case round =>
      obtain ⟨k, hk, rfl, hg, h0, h1, hbel⟩ := hrel
      have G : Hid (goodTo s k = true) := hg
      have G0 : Hid (wr.heap[w.heap.size]? = some (.cells (V8 zeros20) 22 (0, 0))) := h0
      have G1 : Hid (wr.heap[w.heap.size + 1]? = some (.cells (V8 (valsTo s k)) 22 (0, 0))) := h1
      have GB : Hid (Below w.heap.size w wr) := hbel
      clear hg h0 h1 hbel H0 H1 HBL
      by_cases hlt : k < 20
      · have HI0 : Hid (∀ W, (Instr.index 9 (.string s) (.int .i64 (2 * (k : Int)))).run Tryz.prog W = .ok (.int .u8 (at8 s (2 * k) : Nat)) W) := fun W => index_text s (2 * k) (by rw [H40.out]; omega) _ (by omega) W
        have HI1 : Hid (∀ W, (Instr.index 9 (.string s) (.int .i64 (2 * (k : Int) + 1))).run Tryz.prog W = .ok (.int .u8 (at8 s (2 * k + 1) : Nat)) W) := fun W => index_text s (2 * k + 1) (by rw [H40.out]; omega) _ (by omega) W
        have HGS : Hid (goodTo s (k + 1) = (goodTo s k && (decide (0 ≤ nib (at8 s (2 * k))) && decide (0 ≤ nib (at8 s (2 * k + 1)))))) := goodTo_snoc s k
        have HVA : Hid (valAt s k = 16 * nib (at8 s (2 * k)) + nib (at8 s (2 * k + 1))) := rfl
        have hlt' : (k : Int) < 20 := by omega
        go_wp2_with fail
        go_loopw [6, 7] (fun f j wq => ∃ n : Nat, n ≤ 256 ∧ j = .int .i64 n ∧ f = .bool (metTo (nib (at8 s (2 * k))) (nib (at8 s (2 * k + 1))) n) ∧ wq.heap[w.heap.size]? = some (.cells (V8 zeros20) 22 (0, 0)) ∧ wq.heap[w.heap.size + 1]? = some (.cells (V8 (rowTo s k n)) 22 (0, 0)) ∧ Below w.heap.size w wq) (fun _ j _ => 256 - (intOf j).toNat)
        case atStart =>
          have hm : metTo (nib (at8 s (2 * k))) (nib (at8 s (2 * k + 1))) 0 = false := by unfold metTo; simp; omega
          exact ⟨0, by omega, rfl, by rw [hm], G0.out, by unfold rowTo; rw [hm]; exact G1.out, GB.out⟩
        case round =>
          obtain ⟨n, hn, rfl, rfl, h0, h1, hbel⟩ := hrel
          have Q0 : Hid (wr.heap[w.heap.size]? = some (.cells (V8 zeros20) 22 (0, 0))) := h0
          have Q1 : Hid (wr.heap[w.heap.size + 1]? = some (.cells (V8 (rowTo s k n)) 22 (0, 0))) := h1
          have QB : Hid (Below w.heap.size w wr) := hbel
          have HRO : Hid (∀ m, rowTo s k m = if metTo (nib (at8 s (2 * k))) (nib (at8 s (2 * k + 1))) m = true then valsTo s (k + 1) else valsTo s k) := fun m => rfl
          have HRL : Hid (∀ m, (rowTo s k m).length = 20) := rowTo_length s k
          have HVS : Hid (∀ x, x = valAt s k → (V8 (valsTo s k)).setIfInBounds k (.int .u8 x) = V8 (valsTo s (k + 1))) := fun x hx => valsTo_set s k hlt x hx
          have n0 := nib_le (at8 s (2 * k))
          have n1 := nib_le (at8 s (2 * k + 1))
          have N0 : Hid (-1 ≤ nib (at8 s (2 * k)) ∧ nib (at8 s (2 * k)) ≤ 15) := n0
          have N1 : Hid (-1 ≤ nib (at8 s (2 * k + 1)) ∧ nib (at8 s (2 * k + 1)) ≤ 15) := n1
          clear h0 h1 hbel n0 n1
          by_cases hlt2 : n < 256
          · have hi0 := HI0.out
            have hi1 := HI1.out
            have D0 : Hid (at8 s (2 * k) = hexD (n / 16) ↔ nib (at8 s (2 * k)) = ((n / 16 : Nat) : Int)) := nib_hexD (n / 16) _ (by omega)
            have D1 : Hid (at8 s (2 * k + 1) = hexD (n % 16) ↔ nib (at8 s (2 * k + 1)) = ((n % 16 : Nat) : Int)) := nib_hexD (n % 16) _ (by omega)
            have E0 : Hid (((n : Int) / 16).toNat = n / 16) := by show _ = _; omega
            have E1 : Hid (((n : Int) % 16).toNat = n % 16) := by show _ = _; omega
            generalize at8 s (2 * k) = c0 at *
            generalize at8 s (2 * k + 1) = c1 at *
            have m1 : IntKind.i64.wrap (2 * (k : Int)) = 2 * (k : Int) := IntWalk.i64_in _ (by omega)
            have m2 : IntKind.i64.wrap (2 * (k : Int) + 1) = 2 * (k : Int) + 1 := IntWalk.i64_in _ (by omega)
            have m3 : IntKind.i64.wrap ((n : Int).tdiv 16) = (n : Int) / 16 := by rw [Int.tdiv_eq_ediv_of_nonneg (by omega)]; exact IntWalk.i64_in _ (by omega)
            have m4 : IntKind.i64.wrap ((n : Int).tmod 16) = (n : Int) % 16 := by rw [Int.tmod_eq_emod_of_nonneg (by omega)]; exact IntWalk.i64_in _ (by omega)
            have m5 : (n : Int).tmod 16 = (n : Int) % 16 := Int.tmod_eq_emod_of_nonneg (by omega)
            have hq : (n : Int) < 256 := by omega
            have E0' : ((n : Int) / 16).toNat = n / 16 := E0.out
            by_cases g : c0 = hexD (n / 16) ∧ c1 = hexD (n % 16)
            · obtain ⟨g0, g1⟩ := g
              obtain ⟨M0, M1, M2⟩ := met_step (nib c0) (nib c1) n N0.out N1.out hlt2 ⟨D0.out.1 g0, D1.out.1 g1⟩
              have HM1 : Hid (metTo (nib c0) (nib c1) (n + 1) = true) := M1
              have HM2 : Hid (16 * nib c0 + nib c1 = (n : Int)) := M2
              have hr0 : rowTo s k n = valsTo s k := by rw [HRO.out, M0]; rfl
              have HR1 : Hid (rowTo s k (n + 1) = valsTo s (k + 1)) := by show _ = _; rw [HRO.out, M1]; rfl
              have b0 : ((c0 : Int) == (hexD ((n : Int) / 16).toNat : Int)) = true := by rw [E0', ← g0]; simp
              have b0' : ((c0 : Int) == (hexD (n / 16) : Int)) = true := by rw [← g0]; simp
              have b1 : ((c1 : Int) == (hexD (n % 16) : Int)) = true := by rw [← g1]; simp
              clear g0 g1 E0' M1 M2 D0 D1
              rw [hr0] at Q1
              clear hr0
              obtain ⟨nq, hnq⟩ : ∃ nq : Nat, nq = nq := ⟨0, rfl⟩
              clear hnq nq
              go_wp2_with fail
              go_quiet ((go_at_call 65; exact Calls.quiet_of_same (digit_same _ _ (by omega))))
              have R0 : Hid ((wr.drewN nq).heap[w.heap.size]? = some (.cells (V8 zeros20) 22 (0, 0))) := Q0.out
              have R1 : Hid ((wr.drewN nq).heap[w.heap.size + 1]? = some (.cells (V8 (valsTo s k)) 22 (0, 0))) := Q1.out
              have RB : Hid (Below w.heap.size w (wr.drewN nq)) := ⟨QB.out.os, QB.out.tape, QB.out.output, QB.out.size, QB.out.block⟩
              generalize wr.drewN nq = wd at *
              obtain ⟨ov, ho⟩ : ∃ ov, wd.cell? ⟨w.heap.size + 1, k, none⟩ = some ov := ⟨_, by rw [cell_of_row wd _ _ _ _ _ R1.out, Array.getElem?_eq_getElem (by rw [V8_size, valsTo_length]; omega)]⟩
              have fo := frozen_of_row wd (w.heap.size + 1) k (V8 (valsTo s k)) 22 R1.out
              clear hi0 hi1 m1 m2 m3 m4 m5 b0 b0' b1
              go_wp2_with fail
              exact ⟨⟨n + 1, by omega, by go_num, by rw [HM1.out], (Below.heap_setCell wd _ _ _ (by show w.heap.size ≠ w.heap.size + 1; omega)).trans R0.out, (heap_setCell_same wd (w.heap.size + 1) _ _ _ _ R1.out).trans (by rw [HVS.out _ (by rw [HVA.out, HM2.out]), HR1.out]), RB.out.setCell (by show w.heap.size ≤ w.heap.size + 1; omega) _⟩, by simp [intOf]; omega⟩
            · have M := met_same (nib c0) (nib c1) n N0.out N1.out (fun h => g ⟨D0.out.2 h.1, D1.out.2 h.2⟩)
              have HM : Hid (metTo (nib c0) (nib c1) (n + 1) = metTo (nib c0) (nib c1) n) := M
              have HR1 : Hid (rowTo s k (n + 1) = rowTo s k n) := by show _ = _; rw [HRO.out, HRO.out, M]
              have hg : c0 ≠ hexD (n / 16) ∨ (c0 = hexD (n / 16) ∧ c1 ≠ hexD (n % 16)) := by
                by_cases g0 : c0 = hexD (n / 16)
                · exact .inr ⟨g0, fun g1 => g ⟨g0, g1⟩⟩
                · exact .inl g0
              clear g M D0 D1
              rcases hg with g0 | ⟨g0, g1⟩
              · have b0 : ((c0 : Int) == (hexD ((n : Int) / 16).toNat : Int)) = false := by rw [E0']; simp; exact fun e => g0 (by omega)
                have b0' : ((c0 : Int) == (hexD (n / 16) : Int)) = false := by simp; exact fun e => g0 (by omega)
                clear g0 E0'
                go_wp2_with fail
                go_quiet ((go_at_call 65; exact Calls.quiet_of_same (digit_same _ _ (by omega))))
                have RB : Hid (Below w.heap.size w (wr.drewN nq)) := ⟨QB.out.os, QB.out.tape, QB.out.output, QB.out.size, QB.out.block⟩
                clear hi0 hi1 m1 m2 m3 m4 m5 b0 b0'
                go_wp2_with fail
                exact ⟨⟨n + 1, by omega, by go_num, by rw [HM.out], Q0.out, by rw [HR1.out]; exact Q1.out, RB.out⟩, by simp [intOf]; omega⟩
              · have b0 : ((c0 : Int) == (hexD ((n : Int) / 16).toNat : Int)) = true := by rw [E0', ← g0]; simp
                have b0' : ((c0 : Int) == (hexD (n / 16) : Int)) = true := by rw [← g0]; simp
                have b1 : ((c1 : Int) == (hexD (n % 16) : Int)) = false := by simp; exact fun e => g1 (by omega)
                clear g0 g1 E0'
                go_wp2_with fail
                go_quiet ((go_at_call 65; exact Calls.quiet_of_same (digit_same _ _ (by omega))))
                have RB : Hid (Below w.heap.size w (wr.drewN nq)) := ⟨QB.out.os, QB.out.tape, QB.out.output, QB.out.size, QB.out.block⟩
                clear hi0 hi1 m1 m2 m3 m4 m5 b0 b0' b1
                go_wp2_with fail
                exact ⟨⟨n + 1, by omega, by go_num, by rw [HM.out], Q0.out, by rw [HR1.out]; exact Q1.out, RB.out⟩, by simp [intOf]; omega⟩
          · obtain rfl : n = 256 := by omega
            have HMA := met_all (nib (at8 s (2 * k))) (nib (at8 s (2 * k + 1))) N0.out N1.out
            have HMH : Hid (metTo (nib (at8 s (2 * k))) (nib (at8 s (2 * k + 1))) 256 = (decide (0 ≤ nib (at8 s (2 * k))) && decide (0 ≤ nib (at8 s (2 * k + 1))))) := HMA
            clear HMA hlt2 hn
            cases hmet : metTo (nib (at8 s (2 * k))) (nib (at8 s (2 * k + 1))) 256
            · have HP : Hid (parsed s = zeros20 ∧ isHex s = false) := by
                show _ ∧ _
                have hb : goodTo s 20 = false := by
                  cases hgt : goodTo s 20
                  · rfl
                  · have h2 := goodTo_le s (k + 1) 20 (by omega) hgt
                    rw [HGS.out, ← HMH.out, hmet] at h2
                    simp at h2
                have : isHex s = false := by simp [isHex, hb]
                simp [parsed, this, zeros20]
              clear hmet HMH
              go_wp2_with (refine wpList_store_row rfl 22 (.tmp 2) (.tmp 45) rfl w.heap.size (V8 zeros20) rfl rfl 22 (V8 zeros20) Q0.out (I20.out _ HZL.out) rfl (V8_one _) ?_)
              refine bodyPost_ret (results_row_tmp Tryz.results47 _ _ w.heap.size 22 (V8 zeros20) (0, 0) (.array 20 5) rfl (setRow_heap _ _ _ _ _ _ Q0.out) Tryz.underlying22 rfl (I20.out _ HZL.out)) rfl ⟨by rw [HP.out.1, HP.out.2]; rfl, ?_⟩
              exact below_setRow QB.out (Nat.le_refl _) _
            · have HR1 : Hid (rowTo s k 256 = valsTo s (k + 1)) := by show _ = _; rw [HRO.out, hmet]; rfl
              have HG1 : Hid (goodTo s (k + 1) = true) := by show _ = _; rw [HGS.out, G.out, ← HMH.out, hmet]; rfl
              clear hmet HMH
              go_wp2_with fail
              exact ⟨⟨k + 1, by omega, by go_num, HG1.out, Q0.out, by rw [← HR1.out]; exact Q1.out, QB.out⟩, by simp [intOf]; omega⟩
      · obtain rfl : k = 20 := by omega
        have HV : Hid (valsTo s 20 = parsed s ∧ isHex s = true) := by
          show _ ∧ _
          have : isHex s = true := by simp [isHex, H40.out, G.out]
          simp [parsed, this]
        have HPL : Hid ((parsed s).length = 20) := by show _ = _; rw [← HV.out.1]; exact valsTo_length s 20
        rw [HV.out.1] at G1
        clear hlt hk
        have tok1 : True := trivial
        go_wp2_with (first
          | (have _t := tok1; refine wpList_load_row rfl 22 _ rfl (w.heap.size + 1) rfl 22 (V8 (parsed s)) (0, 0) (.array 20 5) G1.out Tryz.underlying22 rfl (I20.out _ HPL.out) ?_; clear tok1)
          | (refine wpList_store_row rfl 22 (.tmp 2) (.tmp 46) rfl w.heap.size (V8 (parsed s)) rfl rfl 22 (V8 zeros20) G0.out (I20.out _ HPL.out) (by rw [V8_size, V8_size, HPL.out]; rfl) (V8_one _) ?_))
        refine bodyPost_ret (results_row_tmp Tryz.results47 _ _ w.heap.size 22 (V8 (parsed s)) (0, 0) (.array 20 5) rfl (setRow_heap _ _ _ _ _ _ G0.out) Tryz.underlying22 rfl (I20.out _ HPL.out)) rfl ⟨by rw [HV.out.2]; rfl, ?_⟩
        exact below_setRow GB.out (Nat.le_refl _) _
  · have t40 : ((s.size : Int) != 40) = true := by simp; omega
    have HP : Hid (parsed s = zeros20 ∧ isHex s = false) := by
      show _ ∧ _
      have : isHex s = false := by simp [isHex, h40]
      simp [parsed, this, zeros20]
    clear h40
    go_enter Tryz.func47, Tryz.ntmps47
    have tok1 : True := trivial
    go_wp2_with (first
      | (have _t := tok1; refine wpList_load_row rfl 22 _ rfl (w.heap.size + 1) rfl 22 (V8 zeros20) (0, 0) (.array 20 5) H1.out Tryz.underlying22 rfl (I20.out _ HZL.out) ?_; clear tok1)
      | (refine wpList_store_row rfl 22 (.tmp 2) (.tmp 11) rfl w.heap.size (V8 zeros20) rfl rfl 22 (V8 zeros20) H0.out (I20.out _ HZL.out) rfl (V8_one _) ?_))
    refine bodyPost_ret (results_row_tmp Tryz.results47 _ _ w.heap.size 22 (V8 zeros20) (0, 0) (.array 20 5) rfl (setRow_heap _ _ _ _ _ _ H0.out) Tryz.underlying22 rfl (I20.out _ HZL.out)) rfl ⟨by rw [HP.out.1, HP.out.2]; rfl, ?_⟩
    exact below_setRow HBL.out (Nat.le_refl _) _
end Go.Proofs.YtindmggmblmmcaaGreatDoor
