/- A row of sevens: the walk. -/
import Derived.Test.YtkpnmagcmpljoaaLeb1
import Derived.OwnWalk
import Derived.WalkMore
namespace Go.Proofs.Ytkpnmagcmpljoaa
open Go.RowKit Plain
set_option linter.unusedVariables false
theorem drop_cons (xs : List Int) (k : Nat) (h : k < xs.length) : xs.drop k = xs[k]?.getD 0 :: xs.drop (k + 1) := by
  rw [List.drop_eq_getElem_cons h, List.getElem?_eq_getElem h]; rfl
theorem and127 : ∀ x : Nat, x < 256 → bits .and .u8 (x : Int) 127 = ((x % 128 : Nat) : Int) := by decide +kernel
set_option maxRecDepth 100000 in
set_option maxHeartbeats 2000000 in
theorem sevens_any (a : Option Addr) (m cap : Nat) (xs : List Int) (w0 w : World) (B : Nat) (H : Bytes w0 a m xs) (hb : Below w0.heap.size w0 w) (hB : w0.heap.size ≤ B) (hc : w.heap[B]? = some (.cells #[.int .i64 0] 3 (0, 0))) :
    Calls Try.prog 28 #[.slice a m cap, .func (.func 29) #[] #[.pointer (some ⟨B, 0, none⟩)]] w fun e w' =>
      e = .returned (.tuple #[.int .i64 ((lebOf xs).1 : Int), .int .i64 ((lebOf xs).2.1 : Int), .int .i64 ((lebOf xs).2.2 : Int)]) ∧ Below w0.heap.size w0 w' := by
  obtain ⟨hz, hm, hr, hcell⟩ := H
  have HZ : Hid (xs.length = m) := hz
  have HR : Hid (∀ j : Nat, 0 ≤ xs[j]?.getD 0 ∧ xs[j]?.getD 0 ≤ 255) := hr
  have HC : Hid (m = 0 ∨ ∃ b off, a = some ⟨b, off, none⟩ ∧ ∀ j, j < m → w0.cell? ⟨b, off + j, none⟩ = some (.int .u8 (xs[j]?.getD 0))) := hcell
  have HBL : Hid (Below w0.heap.size w0 w) := hb
  have HCB : Hid (w.heap[B]? = some (.cells #[.int .i64 0] 3 (0, 0))) := hc
  clear hz hr hcell hb hc
  go_enter Try.func28, Try.ntmps28
  go_wp2_with fail
  apply wp_scope_straight
  go_wp2_with fail
  apply wp_label
  go_wp2_with fail
  go_loopw [7, 14] (fun v i wr => ∃ (k n : Nat), k ≤ m ∧ k ≤ 12 ∧ v = .int .i64 3 ∧ i = .int .i64 (k : Int) ∧ wr.heap[B]? = some (.cells #[.int .i64 (n : Int)] 3 (0, 0)) ∧ n < 2 ^ (7 * k) ∧ n ≤ 4611686018427387903 ∧ lebOf xs = lebGo (xs.drop k) k n ∧ Below w0.heap.size w0 wr) (fun _ i _ => m - (intOf i).toNat)
  case atStart => exact ⟨0, 0, by omega, by omega, rfl, rfl, HCB.out, by simp, by omega, rfl, HBL.out⟩
  case round =>
    obtain ⟨k, n, hk, hk12, rfl, rfl, hrow, hn1, hn2, hgo, hbel⟩ := hrel
    have HRow : Hid (wr.heap[B]? = some (.cells #[.int .i64 (n : Int)] 3 (0, 0))) := hrow
    have HN1 : Hid (n < 2 ^ (7 * k)) := hn1
    have HGO : Hid (lebOf xs = lebGo (xs.drop k) k n) := hgo
    have HBE : Hid (Below w0.heap.size w0 wr) := hbel
    clear hrow hn1 hgo hbel HBL HCB
    by_cases hlt : k < m
    · obtain ⟨b, off, rfl, hb, hcl⟩ : ∃ b off, a = some ⟨b, off, none⟩ ∧ b < w0.heap.size ∧ w0.cell? ⟨b, off + k, none⟩ = some (.int .u8 (xs[k]?.getD 0)) := by
        rcases HC.out with h | ⟨b, off, h1, h2⟩
        · omega
        · exact ⟨b, off, h1, World.block_lt_of_cell? w0 _ (h2 k hlt), h2 k hlt⟩
      have hcell : wr.cell? ⟨b, off + k, none⟩ = some (.int .u8 (xs[k]?.getD 0)) := (HBE.out.cell (p := ⟨b, _, none⟩) hb).trans hcl
      have hr := HR.out k
      have HD : Hid (xs.drop k = xs[k]?.getD 0 :: xs.drop (k + 1)) := drop_cons xs k (by rw [HZ.out]; exact hlt)
      clear hcl
      generalize xs[k]?.getD 0 = x at *
      obtain ⟨x, rfl⟩ := Int.eq_ofNat_of_zero_le hr.1
      have hx5 : x < 256 := by omega
      have hand := and127 x hx5
      obtain ⟨d, hd⟩ : ∃ d, x % 128 = d := ⟨_, rfl⟩
      rw [hd] at hand
      have hd5 : d < 128 := by omega
      have hwd : wrap64 (d : Int) = d := by rw [IntWalk.wrap64_in]; omega
      have HDM : Hid (x % 128 = d) := hd
      have HLEB : Hid (lebOf xs = if 12 ≤ k ∨ (4611686018427387903 - n) / 2 ^ (7 * k) < d then (0, 0, 2) else if x < 128 then (n + d * 2 ^ (7 * k), k + 1, 0) else lebGo (xs.drop (k + 1)) (k + 1) (n + d * 2 ^ (7 * k))) := by
        show _ = _
        rw [HGO.out, HD.out, lebGo, Int.toNat_natCast, hd]
      clear hd HD HGO
      by_cases h12 : k < 12
      · have HTK := take_any k d n B wr h12 hd5 HN1.out hn2 HRow.out
        have HNX : Hid (n + d * 2 ^ (7 * k) < 2 ^ (7 * (k + 1))) := seven_lt d n k HN1.out hd5
        have HNM : Hid (¬ (4611686018427387903 - n) / 2 ^ (7 * k) < d → n + d * 2 ^ (7 * k) ≤ 4611686018427387903) := fun h => le_div_high d n k hn2 (by omega)
        have HR2 : Hid (∀ y : Int, (wr.setCell ⟨B, 0, none⟩ (.int .i64 y)).drew.heap[B]? = some (.cells #[.int .i64 y] 3 (0, 0))) := fun y => (heap_setCell_same wr B 0 _ _ _ HRow.out).trans rfl
        have HB2 : Hid (∀ y : Int, Below w0.heap.size w0 (wr.setCell ⟨B, 0, none⟩ (.int .i64 y)).drew) := fun y => (HBE.out.setCell hB _).drew
        generalize (4611686018427387903 - n) / 2 ^ (7 * k) = q at *
        obtain ⟨z, hz⟩ : ∃ z, n + d * 2 ^ (7 * k) = z := ⟨_, rfl⟩
        rw [hz] at HTK HNX HNM HLEB
        clear hz HN1 HRow
        go_wp2_with fail
        refine HTK.mono ?_
        rintro e w' (⟨hq, rfl, rfl⟩ | ⟨hq, rfl, rfl⟩)
        · clear HTK
          go_wp2_with fail
          (try simp only [Exit.noGoto_ret]); go_ret3
          rw [HLEB.out, if_pos (.inr hq)]
          exact ⟨rfl, HBE.out⟩
        · clear HTK
          have h12' : ¬ (12 ≤ k ∨ q < d) := by omega
          by_cases hx : x < 128
          · have hxi : (x : Int) < 128 := by omega
            go_wp2_with fail
            (try simp only [Exit.noGoto_ret]); go_ret3
            rw [HLEB.out, if_neg h12', if_pos hx]
            exact ⟨rfl, HB2.out _⟩
          · have hxi : ¬ (x : Int) < 128 := by omega
            go_wp2_with fail
            refine ⟨⟨k + 1, z, by omega, by omega, rfl, by go_num, HR2.out _, HNX.out, HNM.out hq, ?_, HB2.out _⟩, by simp [intOf]; omega⟩
            rw [HLEB.out, if_neg h12', if_neg hx]
      · have hki : ¬ (k : Int) < 12 := by omega
        have h12' : 12 ≤ k ∨ (4611686018427387903 - n) / 2 ^ (7 * k) < d := .inl (by omega)
        go_wp2_with fail
        (try simp only [Exit.noGoto_ret]); go_ret3
        rw [HLEB.out, if_pos h12']
        exact ⟨rfl, HBE.out⟩
    · have hkm : k = m := by omega
      have hki : ¬ (k : Int) < (m : Int) := by omega
      have HE : Hid (lebOf xs = (0, 0, 3)) := by
        show _ = _
        rw [HGO.out, List.drop_of_length_le (by rw [HZ.out]; omega), lebGo]
      go_wp2_with fail
      (try simp only [Exit.noGoto_ret]); go_ret3
      rw [HE.out]
      exact ⟨rfl, HBE.out⟩
theorem fromLeb_any (a : Option Addr) (m cap : Nat) (xs : List Int) (w : World) (H : Bytes w a m xs) :
    Calls Try.prog 17 #[.slice a m cap] w fun e w' =>
      e = .returned (.tuple #[.int .i64 ((lebOf xs).1 : Int), .int .i64 ((lebOf xs).2.1 : Int), .int .i64 ((lebOf xs).2.2 : Int)]) ∧ Below w.heap.size w w' := by
  have HH : Hid (Bytes w a m xs) := H
  clear H
  go_enter Try.func17, Try.ntmps17
  go_wp2_with fail
  refine (sevens_any a m cap xs w _ w.heap.size HH.out ((Below.refl _ _).alloc (Nat.le_refl _) _) (Nat.le_refl _) (heap_alloc_new w _)).mono ?_
  rintro e w' ⟨rfl, hb⟩
  have HB : Hid (Below w.heap.size w w') := hb
  clear hb
  go_wp2_with fail
  go_ret3
  exact ⟨rfl, HB.out⟩
end Go.Proofs.Ytkpnmagcmpljoaa
