/- An offset's row of sevens: the walk. -/
import Derived.Test.YtomnogbahjcnnaaDoorOfs1
namespace Go.Proofs.YtomnogbahjcnnaaDoor
open Go.RowKit Plain
set_option linter.unusedVariables false
theorem drop_cons (xs : List Int) (k : Nat) (h : k < xs.length) : xs.drop k = xs[k]?.getD 0 :: xs.drop (k + 1) := by
  rw [List.drop_eq_getElem_cons h, List.getElem?_eq_getElem h]; rfl
theorem and127 : ∀ x : Nat, x < 256 → bits .and .u8 (x : Int) 127 = ((x % 128 : Nat) : Int) := by decide +kernel
theorem wrap_rule (y : Nat) (h : y ≤ 4611686018427387904) : ∀ y' : Int, y' = (y : Int) → wrap64 y' = (y : Int) := fun y' h' => by
  rw [h', IntWalk.wrap64_in]
  omega
set_option maxRecDepth 100000 in
set_option maxHeartbeats 2000000 in
theorem sevensOfs_any (a : Option Addr) (m cap : Nat) (xs : List Int) (w0 w : World) (B : Nat) (H : Bytes w0 a m xs) (hb : Below w0.heap.size w0 w) (hB : w0.heap.size ≤ B) (hc : w.heap[B]? = some (.cells #[.int .i64 0] 3 (0, 0))) :
    Calls Tryd.prog 28 #[.slice a m cap, .func (.func 30) #[] #[.pointer (some ⟨B, 0, none⟩)]] w fun e w' =>
      e = .returned (.tuple #[.int .i64 ((ofsOf xs).1 : Int), .int .i64 ((ofsOf xs).2.1 : Int), .int .i64 ((ofsOf xs).2.2 : Int)]) ∧ Below w0.heap.size w0 w' := by
  obtain ⟨hz, hm, hr, hcell⟩ := H
  have HZ : Hid (xs.length = m) := hz
  have HR : Hid (∀ j : Nat, 0 ≤ xs[j]?.getD 0 ∧ xs[j]?.getD 0 ≤ 255) := hr
  have HC : Hid (m = 0 ∨ ∃ b off, a = some ⟨b, off, none⟩ ∧ ∀ j, j < m → w0.cell? ⟨b, off + j, none⟩ = some (.int .u8 (xs[j]?.getD 0))) := hcell
  have HBL : Hid (Below w0.heap.size w0 w) := hb
  have HCB : Hid (w.heap[B]? = some (.cells #[.int .i64 0] 3 (0, 0))) := hc
  clear hz hr hcell hb hc
  go_enter Tryd.func28, Tryd.ntmps28
  go_wp2_with fail
  apply wp_scope_straight
  go_wp2_with fail
  apply wp_label
  go_wp2_with fail
  go_loopw [7, 14] (fun v i wr => ∃ (k n : Nat), k ≤ m ∧ k ≤ 12 ∧ v = .int .i64 3 ∧ i = .int .i64 (k : Int) ∧ wr.heap[B]? = some (.cells #[.int .i64 (n : Int)] 3 (0, 0)) ∧ n ≤ 4611686018427387903 ∧ ofsOf xs = ofsGo (xs.drop k) k n ∧ Below w0.heap.size w0 wr) (fun _ i _ => m - (intOf i).toNat)
  case atStart => exact ⟨0, 0, by omega, by omega, rfl, rfl, HCB.out, by omega, rfl, HBL.out⟩
  case round =>
    obtain ⟨k, n, hk, hk12, rfl, rfl, hrow, hn2, hgo, hbel⟩ := hrel
    have HRow : Hid (wr.heap[B]? = some (.cells #[.int .i64 (n : Int)] 3 (0, 0))) := hrow
    have HGO : Hid (ofsOf xs = ofsGo (xs.drop k) k n) := hgo
    have HBE : Hid (Below w0.heap.size w0 wr) := hbel
    clear hrow hgo hbel HBL HCB
    by_cases hlt : k < m
    · obtain ⟨b, off, rfl, hb, hcl⟩ : ∃ b off, a = some ⟨b, off, none⟩ ∧ b < w0.heap.size ∧ w0.cell? ⟨b, off + k, none⟩ = some (.int .u8 (xs[k]?.getD 0)) := by
        rcases HC.out with h | ⟨b, off, h1, h2⟩
        · omega
        · exact ⟨b, off, h1, World.block_lt_of_cell? w0 _ (h2 k hlt), h2 k hlt⟩
      have hcell : wr.cell? ⟨b, off + k, none⟩ = some (.int .u8 (xs[k]?.getD 0)) := (HBE.out.cell (p := ⟨b, _, none⟩) hb).trans hcl
      have hr := HR.out k
      have HD : Hid (xs.drop k = xs[k]?.getD 0 :: xs.drop (k + 1)) := drop_cons xs k (by rw [HZ.out]; exact hlt)
      clear hcl
      generalize xs[k]?.getD 0 = x at *
      obtain ⟨x, rfl⟩ := Int.eq_ofNat_of_zero_le hr.1
      have hx5 : x < 256 := by omega
      have hand := and127 x hx5
      obtain ⟨d, hd⟩ : ∃ d, x % 128 = d := ⟨_, rfl⟩
      rw [hd] at hand
      have hd5 : d < 128 := by omega
      have hwd := wrap_rule d (by omega)
      have HLEB : Hid (ofsOf xs = if 12 ≤ k ∨ 36028797018963967 < (if 0 < k then n + 1 else n) then (0, 0, 2) else if x < 128 then ((if 0 < k then n + 1 else n) * 128 + d, k + 1, 0) else ofsGo (xs.drop (k + 1)) (k + 1) ((if 0 < k then n + 1 else n) * 128 + d)) := by
        show _ = _
        rw [HGO.out, HD.out, ofsGo, Int.toNat_natCast, hd]
      clear hd HD HGO
      by_cases h12 : k < 12
      · have HTK := take2_any k d n B wr hd5 (by omega) hn2 HRow.out
        obtain ⟨q, hq⟩ : ∃ q, (if 0 < k then n + 1 else n) = q := ⟨_, rfl⟩
        rw [hq] at HTK HLEB
        obtain ⟨z, hz⟩ : ∃ z, q * 128 + d = z := ⟨_, rfl⟩
        unfold Take2 at HTK
        rw [hz] at HTK HLEB
        have HZM : Hid (¬ 36028797018963967 < q → z ≤ 4611686018427387903) := fun h => by omega
        clear hz hq
        go_wp2_with fail
        refine HTK.mono ?_
        rintro e w' ⟨hbw, ⟨hq, rfl⟩ | ⟨hq, rfl, hrow'⟩⟩
        · have HB2 : Hid (Below w0.heap.size w0 w') := HBE.out.trans (hbw.mono hB)
          clear HTK hbw
          go_wp2_with fail
          (try simp only [Exit.noGoto_ret]); go_ret3
          rw [HLEB.out, if_pos (.inr hq)]
          exact ⟨rfl, HB2.out⟩
        · have HB2 : Hid (Below w0.heap.size w0 w') := HBE.out.trans (hbw.mono hB)
          have HR2 : Hid (w'.heap[B]? = some (.cells #[.int .i64 (z : Int)] 3 (0, 0))) := hrow'
          clear HTK hbw hrow'
          have h12' : ¬ (12 ≤ k ∨ 36028797018963967 < q) := by omega
          by_cases hx : x < 128
          · have hxi : (x : Int) < 128 := by omega
            go_wp2_with fail
            (try simp only [Exit.noGoto_ret]); go_ret3
            rw [HLEB.out, if_neg h12', if_pos hx]
            exact ⟨rfl, HB2.out⟩
          · have hxi : ¬ (x : Int) < 128 := by omega
            go_wp2_with fail
            refine ⟨⟨k + 1, z, by omega, by omega, rfl, by go_num, HR2.out, HZM.out hq, ?_, HB2.out⟩, by simp [intOf]; omega⟩
            rw [HLEB.out, if_neg h12', if_neg hx]
      · have hki : ¬ (k : Int) < 12 := by omega
        have h12' : 12 ≤ k ∨ 36028797018963967 < (if 0 < k then n + 1 else n) := .inl (by omega)
        go_wp2_with fail
        (try simp only [Exit.noGoto_ret]); go_ret3
        rw [HLEB.out, if_pos h12']
        exact ⟨rfl, HBE.out⟩
    · have hkm : k = m := by omega
      have hki : ¬ (k : Int) < (m : Int) := by omega
      have HE : Hid (ofsOf xs = (0, 0, 3)) := by
        show _ = _
        rw [HGO.out, List.drop_of_length_le (by rw [HZ.out]; omega), ofsGo]
      go_wp2_with fail
      (try simp only [Exit.noGoto_ret]); go_ret3
      rw [HE.out]
      exact ⟨rfl, HBE.out⟩
theorem fromOfs_any (a : Option Addr) (m cap : Nat) (xs : List Int) (w : World) (H : Bytes w a m xs) :
    Calls Tryd.prog 20 #[.slice a m cap] w fun e w' =>
      e = .returned (.tuple #[.int .i64 ((ofsOf xs).1 : Int), .int .i64 ((ofsOf xs).2.1 : Int), .int .i64 ((ofsOf xs).2.2 : Int)]) ∧ Below w.heap.size w w' := by
  have HH : Hid (Bytes w a m xs) := H
  clear H
  go_enter Tryd.func20, Tryd.ntmps20
  go_wp2_with fail
  refine (sevensOfs_any a m cap xs w _ w.heap.size HH.out ((Below.refl _ _).alloc (Nat.le_refl _) _) (Nat.le_refl _) (heap_alloc_new w _)).mono ?_
  rintro e w' ⟨rfl, hb⟩
  have HB : Hid (Below w.heap.size w w') := hb
  clear hb
  go_wp2_with fail
  go_ret3
  exact ⟨rfl, HB.out⟩
end Go.Proofs.YtomnogbahjcnnaaDoor
