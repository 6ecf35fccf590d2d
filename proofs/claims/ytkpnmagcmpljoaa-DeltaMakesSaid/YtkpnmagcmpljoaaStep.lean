/- One step of a delta: the walk. -/
import Derived.Test.YtkpnmagcmpljoaaCopied
namespace Go.Proofs.Ytkpnmagcmpljoaa
open Go.RowKit Plain
set_option linter.unusedVariables false
theorem StepRes.below {w w' : World} {r : Nat × List Int × List Int} {e : Ending} (h : StepRes w r e) (hb : Below w.heap.size w w') : StepRes w' r e := by
  rcases h with h | ⟨h1, pa, pn, pc, ra, rn, rc, h2, h3, h4, h5, h6, h7, h8⟩
  · exact .inl h
  · exact .inr ⟨h1, pa, pn, pc, ra, rn, rc, h2, h3, h4, h5.below hb, h6, h7, h8.below hb⟩
set_option maxRecDepth 100000 in
set_option maxHeartbeats 2000000 in
theorem step_any (a0 : Option Addr) (m0 c0 : Nat) (base : List Int) (a : Option Addr) (m cap : Nat) (d : List Int) (w0 w : World) (hb : Below w0.heap.size w0 w) (h0 : m0 ≤ c0) (hn0 : a0 = none → c0 = 0) (hl0 : m0 ≤ 1000000) (HB : Bytes w0 a0 m0 base)
    (hm0 : 0 < m) (hmc : m ≤ cap) (hml : m ≤ 1000000) (HD : Bytes w0 a m d) :
    Calls Try.prog 16 #[.slice a0 m0 c0, .slice a m cap] w fun e w' => StepRes w0 (stepOf base d) e ∧ Below w.heap.size w w' := by
  have HBB : Hid (Bytes w0 a0 m0 base) := HB
  have HN0 : Hid (a0 = none → c0 = 0) := hn0
  obtain ⟨bb, off, rfl, hcell⟩ : ∃ bb off, a = some ⟨bb, off, none⟩ ∧ w.cell? ⟨bb, off, none⟩ = some (.int .u8 (d[0]?.getD 0)) := by
    rcases HD.2.2.2 with h | ⟨bb, off, h1, h2⟩
    · omega
    · exact ⟨bb, off, h1, by
        have h3 := h2 0 (by omega)
        have h4 := (hb.cell (p := ⟨bb, off + 0, none⟩) (World.block_lt_of_cell? w0 _ h3)).trans h3
        simpa using h4⟩
  have hr := HD.2.2.1 0
  have hdd : d = d[0]?.getD 0 :: d.drop 1 := drop_cons d 0 (by rw [HD.1]; omega)
  have HT : Hid (Bytes w0 (subA (some ⟨bb, off, none⟩) cap 1) (m - 1) (d.drop 1) ∧ (subA (some ⟨bb, off, none⟩) cap 1 = none → cap - 1 = 0)) := ⟨HD.from hmc 1 (by omega), subA_nil (fun e => by cases e)⟩
  have htl : (d.drop 1).length = m - 1 := HT.out.1.1
  obtain ⟨t, ht⟩ : ∃ t, d.drop 1 = t := ⟨_, rfl⟩
  rw [ht] at hdd HT htl
  obtain ⟨x, hx⟩ : ∃ x, d[0]?.getD 0 = x := ⟨_, rfl⟩
  rw [hx] at hdd hcell hr
  obtain ⟨y, rfl⟩ := Int.eq_ofNat_of_zero_le hr.1
  have hy5 : y < 256 := by omega
  have HSO : Hid (stepOf base d = if 128 ≤ y then copyOf base y t else if m - 1 < y then (3, [], []) else if y = 0 then (4, [], []) else (0, t.take y, t.drop y)) := by
    show _ = _
    rw [hdd]
    simp only [stepOf, Int.toNat_natCast]
    rw [htl]
  obtain ⟨ta, hta⟩ : ∃ ta, subA (some ⟨bb, off, none⟩) cap 1 = ta := ⟨_, rfl⟩
  have s1 : ∀ W, (Instr.sliceAt 22 (.slice (some ⟨bb, off, none⟩) m cap) (some (.int .i64 1)) none none).run Try.prog W = .ok (.slice ta (m - 1) (cap - 1)) W := fun W => by
    rw [← hta]; exact slice_from (some ⟨bb, off, none⟩) m cap 1 (by omega) hmc W
  rw [hta] at HT
  clear HB hn0 HD hdd ht hx hta htl
  have hcd : ∀ n, (w.drewN n).cell? ⟨bb, off, none⟩ = some (.int .u8 (y : Int)) := fun n => hcell
  go_enter Try.func16, Try.ntmps16
  go_wp2_with fail
  apply wp_via
  · go_region
    all_goals exact ⟨rfl, rfl, rfl⟩
  have HWD : Hid (Below w.heap.size w w.drew) := (Below.refl _ _).drew
  have HBZ : Hid (Below w0.heap.size w0 w.drew) := hb.drew
  have HBD : Hid (Bytes w0 a0 m0 base) := HBB.out
  have HTD : Hid (Bytes w0 ta (m - 1) t ∧ (ta = none → cap - 1 = 0)) := HT.out
  clear hcell hcd s1 HBB HT hb
  generalize w.drew = w1 at *
  have hmc1 : m - 1 ≤ cap - 1 := by omega
  obtain ⟨n, hn⟩ : ∃ n, m - 1 = n := ⟨_, rfl⟩
  rw [hn] at HTD HSO hmc1 ⊢
  have hn5 : n ≤ 1000000 := by omega
  clear hn
  obtain ⟨k, hk⟩ : ∃ k, cap - 1 = k := ⟨_, rfl⟩
  rw [hk] at HTD hmc1 ⊢
  clear hk
  by_cases hbig : 128 ≤ y
  · have hbi : (128 : Int) ≤ (y : Int) := by omega
    go_wp2_with fail
    refine (copied_any a0 m0 c0 base y ta n k t w0 w1 HBZ.out h0 HN0.out hl0 HBD.out hy5 hmc1 HTD.out.2 HTD.out.1).mono ?_
    rintro e w2 ⟨hs, hw2⟩
    have hw2' := hw2.symm
    subst hw2'
    clear hw2
    have HSR : Hid (StepRes w0 (stepOf base d) e) := by show StepRes _ _ _; rw [HSO.out, if_pos hbig]; exact hs
    clear HSO
    rcases hs with ⟨g1, rfl⟩ | ⟨g1, pa, pn, pc, ra, rn, rc, rfl, -⟩
    · clear g1
      go_wp2_with fail
      go_ret3
      exact ⟨HSR.out, HWD.out⟩
    · clear g1
      go_wp2_with fail
      go_ret3
      exact ⟨HSR.out, HWD.out⟩
  · have hbi : ¬ (128 : Int) ≤ (y : Int) := by omega
    by_cases hny : n < y
    · have hni : (n : Int) < (y : Int) := by omega
      go_wp2_with fail
      go_ret3
      rw [HSO.out, if_neg hbig, if_pos hny]
      exact ⟨.inl ⟨by simp, rfl⟩, HWD.out⟩
    · have hni : ¬ (n : Int) < (y : Int) := by omega
      by_cases hy0 : y = 0
      · have hyi : ((y : Int) == 0) = true := by simp; omega
        have HX : Hid (stepOf base d = (4, [], [])) := by show _ = _; rw [HSO.out, if_neg hbig, if_neg hny, if_pos hy0]
        subst hy0
        go_wp2_with fail
        go_ret3
        rw [HX.out]
        exact ⟨.inl ⟨by simp, rfl⟩, HWD.out⟩
      · have hyi : ((y : Int) == 0) = false := by simp; omega
        have s1 := fun W => slice_to ta n k y (by omega) W
        have s2 := fun W => slice_from ta n k y (by omega) hmc1 W
        have HP : Hid (Bytes w0 ta y (t.take y)) := by
          have := HTD.out.1.first y
          rwa [show min n y = y by omega] at this
        have HQ : Hid (Bytes w0 (subA ta k y) (n - y) (t.drop y)) := HTD.out.1.from hmc1 y (by omega)
        go_wp2_with fail
        apply wp_via
        · go_region
          all_goals exact ⟨rfl, rfl, rfl⟩
        go_wp2_with fail
        go_ret3
        rw [HSO.out, if_neg hbig, if_neg hny, if_neg hy0]
        exact ⟨.inr ⟨rfl, _, _, _, _, _, _, rfl, by omega, HTD.out.2, HP.out, by omega, subA_nil HTD.out.2, HQ.out⟩, HWD.out.trans ((Below.refl _ _).drew)⟩
end Go.Proofs.Ytkpnmagcmpljoaa
