/- The document's answer for a delta: the walk. -/
import Derived.Test.YtkpnmagcmpljoaaRefMath
namespace Go.Proofs.Ytkpnmagcmpljoaa
open Go.RowKit Plain
set_option linter.unusedVariables false
theorem Own.lit1 (w : World) (x : Int) : Own (w.alloc (.cells #[.int .u8 x] 5)) w.heap.size (.slice (some ⟨w.heap.size, 0, none⟩) 1 1) 1 [x] :=
  ⟨rfl, .inr ⟨w.heap.size, 1, #[.int .u8 x], rfl, Nat.le_refl _, by show (w.heap.push _)[w.heap.size]? = _; simp, Nat.le_refl _, by unfold maxLen; omega, rfl, rfl⟩⟩
theorem div_rule (y P b : Nat) (hb : y / P = b) : ∀ y' : Int, y' = (y : Int) → y'.tdiv (P : Int) = (b : Int) := fun y' h => by
  rw [h, Int.tdiv_eq_ediv_of_nonneg (by omega), ← hb]; simp
theorem mod_rule (b t : Nat) (ht : b % 2 = t) : ∀ b' : Int, b' = (b : Int) → b'.tmod 2 = (t : Int) := fun b' h => by
  rw [h, Int.tmod_eq_emod_of_nonneg (by omega)]; omega
theorem two_rule (P P2 : Nat) (h : 2 * P = P2) : ∀ P' : Int, P' = (P : Int) → 2 * P' = (P2 : Int) := fun P' h' => by rw [h', ← h]; simp
theorem mod_two (b t : Nat) (ht : b % 2 = t) : t = 0 ∨ t = 1 := by omega
theorem pow_facts (k : Nat) (hk : k < 7) : 0 < 2 ^ k ∧ 2 * 2 ^ k = 2 ^ (k + 1) ∧ 2 ^ (k + 1) ≤ 128 := by
  refine ⟨Nat.two_pow_pos _, by rw [Nat.pow_succ, Nat.mul_comm], ?_⟩
  exact Nat.pow_le_pow_right (n := 2) (by omega) (show k + 1 ≤ 7 by omega)
theorem wrap_rule (y : Nat) (h : y ≤ 4611686018427387903) : ∀ y' : Int, y' = (y : Int) → wrap64 y' = (y : Int) := fun y' h' => by rw [h']; exact wrap_nat y h
theorem eq_false_of_pos (P : Nat) (h : 0 < P) : ((P : Int) == 0) = false := by simp; omega
set_option maxRecDepth 100000 in
set_option maxHeartbeats 8000000 in
theorem ref_apply (a0 : Option Addr) (m0 c0 : Nat) (base : List Int) (a1 : Option Addr) (m1 c1 : Nat) (d : List Int) (most : Int) (w : World) (h0 : m0 ≤ c0) (hn0 : a0 = none → c0 = 0) (hl0 : m0 ≤ 1000000) (HB : Bytes w a0 m0 base)
    (h1 : m1 ≤ c1) (hn1 : a1 = none → c1 = 0) (hl1 : m1 ≤ 1000000) (HD : Bytes w a1 m1 d) (hmost : most ≤ 1000000000) :
    Calls Try.prog 10 #[.slice a0 m0 c0, .slice a1 m1 c1, .int .i64 most] w fun e w' => (∃ v, e = .returned (.tuple #[v, .int .i64 ((applyOf base d most).1 : Int)]) ∧ Own w' w.heap.size v (applyOf base d most).2.length (applyOf base d most).2) ∧ Below w.heap.size w w' := by
  have HBB : Hid (Bytes w a0 m0 base) := HB
  have HDD : Hid (Bytes w a1 m1 d) := HD
  have HN0 : Hid (a0 = none → c0 = 0) := hn0
  have HN1 : Hid (a1 = none → c1 = 0) := hn1
  obtain ⟨sa, sb, sat, se, hs⟩ : ∃ sa sb sat se, sizesOf d = (sa, sb, sat, se) := ⟨_, _, _, _, rfl⟩
  have q1 := sizesOf_most d
  rw [hs, HD.1] at q1
  dsimp only at q1
  obtain ⟨hsa, hsb, hsat⟩ := q1
  have HSZ : Hid (sizesOf d = (sa, sb, sat, se)) := hs
  have HAP : Hid (applyOf base d most = if se ≠ 0 then (se, []) else if sa ≠ m0 then (4, []) else if most < (sb : Int) then (2, []) else stepsGo base sb (m1 + 1) (d.drop sat) []) := by
    show _ = _
    unfold applyOf
    rw [hs, ← HB.1, ← HD.1]
  clear HB HD hn0 hn1 hs
  obtain ⟨R, hR⟩ : ∃ R, applyOf base d most = R := ⟨_, rfl⟩
  rw [hR] at HAP ⊢
  clear hR
  go_enter Try.func10, Try.ntmps10
  go_wp2_with fail
  refine (sizesRef_any a1 m1 c1 d w h1 hl1 HDD.out).mono ?_
  rw [HSZ.out]
  rintro e w1 ⟨rfl, hw1⟩
  have hw1' := hw1.symm
  subst hw1'
  clear hw1
  by_cases hse : se = 0
  · subst hse
    by_cases hsm : sa = m0
    · have hsmi : (sa : Int) = (m0 : Int) := by omega
      by_cases hbm : most < (sb : Int)
      · go_wp2_with fail
        go_ret2
        rw [HAP.out, if_neg (by omega), if_neg (by omega), if_pos hbm]
        exact ⟨⟨_, rfl, own_nil _ _⟩, Below.refl _ _⟩
      · have hsb9 : sb ≤ 1000000000 := by omega
        have HR : Hid (R = stepsGo base sb (m1 + 1) (d.drop sat) []) := by show _ = _; rw [HAP.out, if_neg (by omega), if_neg (by omega), if_neg hbm]
        clear HAP
        go_wp2_with fail
        go_loopw [10, 12] (fun i o wr => ∃ (p no : Nat) (ao : Option Addr) (co : Nat) (out : List Int), i = .int .i64 (p : Int) ∧ p ≤ m1 ∧ o = .slice ao no co ∧ no ≤ sb ∧ Own wr w.heap.size (.slice ao no co) no out ∧ R = stepsGo base sb (m1 - p + 1) (d.drop p) out ∧ Below w.heap.size w wr) (fun i _ _ => m1 - (intOf i).toNat)
        case atStart => exact ⟨sat, 0, none, 0, [], rfl, hsat, rfl, by omega, own_nil _ _, by rw [HR.out]; exact stepsGo_same _ _ _ _ _ _ (by rw [List.length_drop, HDD.out.1]; omega) (by rw [List.length_drop, HDD.out.1]; omega), Below.refl _ _⟩
        case round =>
          obtain ⟨p, no, ao, co, out, rfl, hp, rfl, hno, hown, hgo, hbel⟩ := hrel
          have HO : Hid (Own wr w.heap.size (.slice ao no co) no out) := hown
          have HOL : Hid (out.length = no) := own_len hown
          have HGO : Hid (R = stepsGo base sb (m1 - p + 1) (d.drop p) out) := hgo
          have HBE : Hid (Below w.heap.size w wr) := hbel
          clear hown hgo hbel HR
          by_cases hpm : p < m1
          · obtain ⟨bd, off, rfl, hbd, hcd⟩ : ∃ bd off, a1 = some ⟨bd, off, none⟩ ∧ bd < w.heap.size ∧ ∀ j, j < m1 → w.cell? ⟨bd, off + j, none⟩ = some (.int .u8 (d[j]?.getD 0)) := by
              rcases HDD.out.2.2.2 with h | ⟨bd, off, h1, h2⟩
              · omega
              · exact ⟨bd, off, h1, World.block_lt_of_cell? w _ (h2 p hpm), h2⟩
            have HCD : Hid (∀ W, Below w.heap.size w W → ∀ j, j < m1 → W.cell? ⟨bd, off + j, none⟩ = some (.int .u8 (d[j]?.getD 0))) := fun W hW j hj => (hW.cell (p := ⟨bd, _, none⟩) hbd).trans (hcd j hj)
            have hcell := HCD.out wr HBE.out p hpm
            have hr := HDD.out.2.2.1 p
            have hdr := drop_cons d p (by rw [HDD.out.1]; exact hpm)
            have HGS : Hid (R = goStep base sb out (stepOf base (d[p]?.getD 0 :: d.drop (p + 1)))) := by
              show _ = _
              rw [HGO.out, hdr]
              exact stepsGo_step _ _ _ _ _ (by simp) (by rw [← hdr, List.length_drop, HDD.out.1]; omega)
            have HTL : Hid ((d.drop (p + 1)).length = m1 - (p + 1)) := by show _ = _; rw [List.length_drop, HDD.out.1]
            obtain ⟨x, hx⟩ : ∃ x, d[p]?.getD 0 = x := ⟨_, rfl⟩
            rw [hx] at hcell hr HGS
            obtain ⟨y, rfl⟩ := Int.eq_ofNat_of_zero_le hr.1
            have hy5 : y < 256 := by omega
            obtain ⟨q, hq⟩ : ∃ q, p + 1 = q := ⟨_, rfl⟩
            have hpq : ∀ p' : Int, p' = (p : Int) → p' + 1 = (q : Int) := fun p' h => by rw [h, ← hq]; simp
            rw [hq] at HGS HTL
            have hq1 : q ≤ m1 := by omega
            have hq0 : p < q := by omega
            clear hbd hcd hdr hx HGO hq
            by_cases hy0 : y = 0
            · subst hy0
              have HX : Hid (R = (4, [])) := by show _ = _; rw [HGS.out]; exact goStep_zero _ _ _ _
              go_wp2_with fail
              go_ret2
              rw [HX.out]
              exact ⟨⟨_, rfl, own_nil _ _⟩, HBE.out⟩
            · have hy0b : ((y : Int) == 0) = false := by simp; omega
              by_cases hy8 : y < 128
              · have hy8i : (y : Int) < 128 := by omega
                by_cases hsh : m1 - q < y
                · have hshi : (m1 : Int) - q < y := by omega
                  have HX : Hid (R = (3, [])) := by show _ = _; rw [HGS.out]; exact goStep_short _ _ _ _ _ hy8 (by rw [HTL.out]; exact hsh)
                  go_wp2_with fail
                  go_ret2
                  rw [HX.out]
                  exact ⟨⟨_, rfl, own_nil _ _⟩, HBE.out⟩
                · have hshi : ¬ (m1 : Int) - q < y := by omega
                  by_cases hrm : sb - no < y
                  · have hrmi : (sb : Int) - no < y := by omega
                    have HX : Hid (R = (4, [])) := by show _ = _; rw [HGS.out]; exact goStep_room _ _ _ _ _ hy0 hy8 (by rw [HTL.out]; exact hsh) (by rw [HOL.out]; exact hrm)
                    go_wp2_with fail
                    go_ret2
                    rw [HX.out]
                    exact ⟨⟨_, rfl, own_nil _ _⟩, HBE.out⟩
                  · have hrmi : ¬ (sb : Int) - no < y := by omega
                    have HX : Hid (R = stepsGo base sb (m1 - (q + y) + 1) (d.drop (q + y)) (out ++ (d.drop q).take y)) := by
                      show _ = _
                      rw [HGS.out, goStep_lit _ _ _ _ _ hy0 hy8 (by rw [HTL.out]; exact hsh) (by rw [HOL.out]; exact hrm), HTL.out, List.drop_drop]
                      rw [show m1 - q - y = m1 - (q + y) by omega]
                    clear HGS
                    go_wp2_with fail
                    go_loopw [12, 14] (fun o i wq => ∃ (j : Nat) (ao : Option Addr) (co : Nat), i = .int .i64 (j : Int) ∧ j ≤ y ∧ o = .slice ao (no + j) co ∧ Own wq w.heap.size (.slice ao (no + j) co) (no + j) (out ++ (d.drop q).take j) ∧ Below w.heap.size w wq) (fun _ i _ => y - (intOf i).toNat)
                    case atStart => exact ⟨0, ao, co, rfl, by omega, rfl, by simpa using HO.out, HBE.out⟩
                    case round =>
                      clear HO HBE hcell
                      obtain ⟨j, ao, co, rfl, hj, rfl, hown, hbel⟩ := hrel
                      have HO : Hid (Own wr w.heap.size (.slice ao (no + j) co) (no + j) (out ++ (d.drop q).take j)) := hown
                      have HBE : Hid (Below w.heap.size w wr) := hbel
                      clear hown hbel
                      by_cases hjy : j < y
                      · have hcell := HCD.out wr HBE.out (q + j) (by omega)
                        have hrj := HDD.out.2.2.1 (q + j)
                        have HTK : Hid ((d.drop q).take (j + 1) = (d.drop q).take j ++ [d[q + j]?.getD 0]) := by
                          show _ = _
                          rw [take_next _ _ (by rw [HTL.out]; omega), List.getElem?_drop]
                        obtain ⟨z, hz⟩ : ∃ z, d[q + j]?.getD 0 = z := ⟨_, rfl⟩
                        rw [hz] at hcell hrj HTK
                        clear hz
                        have HLB : Hid (Bytes (wr.alloc (.cells #[.int .u8 z] 5)) (some ⟨wr.heap.size, 0, none⟩) 1 [z]) := Bytes.lit wr _ rfl [z] 5 (0, 0) 1 rfl (by omega) (by simpa using hrj)
                        have HBL : Hid (Below wr.heap.size wr (wr.alloc (.cells #[.int .u8 z] 5))) := (Below.refl _ _).alloc (Nat.le_refl _) _
                        have HBA : Hid (Below w.heap.size w (wr.alloc (.cells #[.int .u8 z] 5))) := HBE.out.trans (HBL.out.mono HBE.out.size)
                        have HOA : Hid (Own (wr.alloc (.cells #[.int .u8 z] 5)) w.heap.size (.slice ao (no + j) co) (no + j) (out ++ (d.drop q).take j)) := HO.out.below HBL.out
                        have hji : (j : Int) < y := by omega
                        go_wp2_with (
                          at_builtin
                          refine wpList_append_bytes rfl _ _ rfl w.heap.size _ (no + j) _ rfl HOA.out _ 1 1 [z] rfl HLB.out (fun e => by cases e) (by omega) HBA.out.size ?_
                          intro v' w4 hown4 hg4
                          have HW4 : Hid (Below w.heap.size w w4) := HBA.out.trans (HOA.out.kept HBA.out.size hg4)
                          rw [List.append_assoc, ← HTK.out, Nat.add_assoc] at hown4
                          have HO4 : Hid (Own w4 w.heap.size v' (no + (j + 1)) (out ++ (d.drop q).take (j + 1))) := hown4
                          obtain ⟨a4, c4, e4, -, -, -⟩ := hown4.shape
                          subst e4
                          clear hown4 hg4)
                        exact ⟨⟨j + 1, a4, c4, by go_num, by omega, rfl, HO4.out, HW4.out⟩, by simp [intOf]; omega⟩
                      · obtain rfl : j = y := by omega
                        have hji : ¬ (j : Int) < j := by omega
                        go_wp2_with fail
                        exact ⟨⟨q + j, no + j, ao, co, out ++ (d.drop q).take j, by go_num, by omega, rfl, by omega, HO.out, HX.out, HBE.out⟩, by simp [intOf]; omega⟩
              · have hy8i : ¬ (y : Int) < 128 := by omega
                obtain ⟨W0, hW0⟩ : ∃ W0, W0 = wr := ⟨_, rfl⟩
                subst hW0
                go_wp2_with fail
                clear hcell
                have HR0 : Hid ((W0.alloc (.cells #[.int .i64 0, .int .i64 0, .int .i64 0, .int .i64 0, .int .i64 0, .int .i64 0, .int .i64 0] 43)).heap[W0.heap.size]? = some (.cells #[.int .i64 0, .int .i64 0, .int .i64 0, .int .i64 0, .int .i64 0, .int .i64 0, .int .i64 0] 43 (0, 0))) := heap_alloc_new W0 _
                have HB0 : Hid (Below W0.heap.size W0 (W0.alloc (.cells #[.int .i64 0, .int .i64 0, .int .i64 0, .int .i64 0, .int .i64 0, .int .i64 0, .int .i64 0] 43))) := (Below.refl _ _).alloc (Nat.le_refl _) _
                go_loopw [10, 16, 17] (fun a b i wq => ∃ (k n r : Nat) (s0 s1 s2 s3 s4 s5 s6 : Int), k ≤ 7 ∧ i = .int .i64 (k : Int) ∧ b = .int .i64 ((2 ^ k : Nat) : Int) ∧ a = .int .i64 (r : Int) ∧ q ≤ r ∧ r ≤ m1 ∧ wq.heap[W0.heap.size]? = some (.cells #[.int .i64 s0, .int .i64 s1, .int .i64 s2, .int .i64 s3, .int .i64 s4, .int .i64 s5, .int .i64 s6] 43 (0, 0)) ∧ Sev k n s0 s1 s2 s3 s4 s5 s6 ∧ gat y 7 0 (d.drop q) 0 = gat y (7 - k) k (d.drop r) n ∧ Below W0.heap.size W0 wq) (fun _ _ i _ => 7 - (intOf i).toNat)
                case atStart => exact ⟨0, 0, q, 0, 0, 0, 0, 0, 0, 0, by omega, rfl, rfl, rfl, by omega, hq1, HR0.out, by unfold Sev; omega, rfl, HB0.out⟩
                case round =>
                  clear HR0 HB0
                  obtain ⟨k, n, r, s0, s1, s2, s3, s4, s5, s6, hk, rfl, rfl, rfl, hqr, hrm, hrow, hsev, hgat, hbel⟩ := hrel
                  have HRW : Hid (wr.heap[W0.heap.size]? = some (.cells #[.int .i64 s0, .int .i64 s1, .int .i64 s2, .int .i64 s3, .int .i64 s4, .int .i64 s5, .int .i64 s6] 43 (0, 0))) := hrow
                  have HSV : Hid (Sev k n s0 s1 s2 s3 s4 s5 s6) := hsev
                  have HGT : Hid (gat y 7 0 (d.drop q) 0 = gat y (7 - k) k (d.drop r) n) := hgat
                  have HBK : Hid (Below W0.heap.size W0 wr) := hbel
                  have HBW : Hid (Below w.heap.size w wr) := HBE.out.trans (hbel.mono HBE.out.size)
                  have HOW : Hid (Own wr w.heap.size (.slice ao no co) no out) := HO.out.below hbel
                  clear hrow hsev hgat hbel
                  by_cases hk7 : k < 7
                  · have hk7i : (k : Int) < 7 := by omega
                    have HGS0 : Hid (y / 2 ^ k % 2 = 0 → gat y 7 0 (d.drop q) 0 = gat y (7 - (k + 1)) (k + 1) (d.drop r) n) := fun h => by
                      rw [HGT.out, show 7 - k = (7 - (k + 1)) + 1 by omega, gat_skip _ _ _ _ _ h]
                    have HGS1 : Hid (¬ y / 2 ^ k % 2 = 0 → ¬ r < m1 → gat y 7 0 (d.drop q) 0 = none) := fun h h' => by
                      rw [HGT.out, List.drop_of_length_le (by rw [HDD.out.1]; omega), show 7 - k = (7 - (k + 1)) + 1 by omega, gat_none _ _ _ _ h]
                    have HGS2 : Hid (¬ y / 2 ^ k % 2 = 0 → r < m1 → ∀ z : Nat, d[r]?.getD 0 = (z : Int) → gat y 7 0 (d.drop q) 0 = gat y (7 - (k + 1)) (k + 1) (d.drop (r + 1)) (n + z * 2 ^ (8 * k))) := fun h h' z hz => by
                      rw [HGT.out, drop_cons d r (by rw [HDD.out.1]; exact h'), hz, show 7 - k = (7 - (k + 1)) + 1 by omega, gat_some _ _ _ _ _ _ h, Int.toNat_natCast]
                    obtain ⟨hP0, hPP, hP5⟩ := pow_facts k hk7
                    obtain ⟨P, hP⟩ : ∃ P, 2 ^ k = P := ⟨_, rfl⟩
                    obtain ⟨P2, hP2⟩ : ∃ P2, 2 ^ (k + 1) = P2 := ⟨_, rfl⟩
                    have HPE : Hid (2 ^ (k + 1) = P2) := hP2
                    rw [hP2] at hPP hP5
                    rw [hP] at hP0 hPP HGS0 HGS1 HGS2
                    rw [hP]
                    clear hP hP2
                    have h2P := two_rule P P2 hPP
                    have hPb := eq_false_of_pos P hP0
                    clear hPP
                    obtain ⟨b, hb⟩ : ∃ b, y / P = b := ⟨_, rfl⟩
                    have hbd := div_rule y P b hb
                    have hb5 : b < 256 := Nat.lt_of_le_of_lt (Nat.le_trans (Nat.le_of_eq hb.symm) (Nat.div_le_self _ _)) hy5
                    rw [hb] at HGS0 HGS1 HGS2
                    clear hb
                    obtain ⟨t, ht⟩ : ∃ t, b % 2 = t := ⟨_, rfl⟩
                    have hbt := mod_rule b t ht
                    have ht2 := mod_two b t ht
                    rw [ht] at HGS0 HGS1 HGS2
                    clear ht HGT
                    have hwb := wrap_rule b (Nat.le_trans (Nat.le_of_lt hb5) (by decide))
                    have hwP := wrap_rule P2 (Nat.le_trans hP5 (by decide))
                    rcases ht2 with rfl | rfl
                    · go_wp2_with fail
                      exact ⟨⟨k + 1, n, r, s0, s1, s2, s3, s4, s5, s6, by omega, by go_num, by rw [HPE.out], rfl, hqr, hrm, HRW.out, HSV.out.more, HGS0.out rfl, HBK.out⟩, by simp [intOf]; omega⟩
                    · by_cases hrl : r < m1
                      · have hrli : ¬ (m1 : Int) ≤ r := by omega
                        have hcell := HCD.out wr HBW.out r hrl
                        have hrr := HDD.out.2.2.1 r
                        obtain ⟨z, hz⟩ : ∃ z, d[r]?.getD 0 = z := ⟨_, rfl⟩
                        rw [hz] at hcell hrr HGS2
                        obtain ⟨z, rfl⟩ := Int.eq_ofNat_of_zero_le hrr.1
                        have hz5 : z < 256 := by omega
                        obtain ⟨qk, ck⟩ := cell7 k hk7 HRW.out
                        have fk : wr.frozen? ⟨W0.heap.size, k, none⟩ = false := by simp [World.frozen?, HRW.out]
                        obtain ⟨t0, t1, t2, t3, t4, t5, t6, hn1, hn2⟩ := put7 k n z hk7 hz5 HRW.out HSV.out
                        have HN1 : Hid ((wr.setCell ⟨W0.heap.size, k, none⟩ (.int .i64 (z : Int))).heap[W0.heap.size]? = some (.cells #[.int .i64 t0, .int .i64 t1, .int .i64 t2, .int .i64 t3, .int .i64 t4, .int .i64 t5, .int .i64 t6] 43 (0, 0))) := hn1
                        have HN2 : Hid (Sev (k + 1) (n + z * 2 ^ (8 * k)) t0 t1 t2 t3 t4 t5 t6) := hn2
                        have HN3 : Hid (gat y 7 0 (d.drop q) 0 = gat y (7 - (k + 1)) (k + 1) (d.drop (r + 1)) (n + z * 2 ^ (8 * k))) := HGS2.out (by omega) hrl z rfl
                        have HN4 : Hid (Below W0.heap.size W0 (wr.setCell ⟨W0.heap.size, k, none⟩ (.int .i64 (z : Int)))) := HBK.out.setCell (Nat.le_refl _) _
                        clear hn1 hn2 hz HGS0 HGS1 HGS2
                        go_wp2_with fail
                        exact ⟨⟨k + 1, n + z * 2 ^ (8 * k), r + 1, t0, t1, t2, t3, t4, t5, t6, by omega, by go_num, by rw [HPE.out], by go_num, by omega, by omega, HN1.out, HN2.out, HN3.out, HN4.out⟩, by simp [intOf]; omega⟩
                      · have hrli : (m1 : Int) ≤ r := by omega
                        have HX : Hid (R = (3, [])) := by show _ = _; rw [HGS.out]; exact goStep_none _ _ _ _ _ hy8 (HGS1.out (by omega) hrl)
                        go_wp2_with fail
                        go_ret2
                        rw [HX.out]
                        exact ⟨⟨_, rfl, own_nil _ _⟩, HBW.out⟩
                  · obtain rfl : k = 7 := by omega
                    have HGE : Hid (gat y 7 0 (d.drop q) 0 = some (n, d.drop r)) := by show _ = _; rw [HGT.out]; simp [gat]
                    have hsv := HSV.out
                    unfold Sev at hsv
                    obtain ⟨hs1, -, -, -, -, -, -, -, hs2⟩ := hsv
                    obtain ⟨pl, hpl⟩ : ∃ pl, n % 4294967296 = pl := ⟨_, rfl⟩
                    obtain ⟨s, hs⟩ : ∃ s, n / 4294967296 = s := ⟨_, rfl⟩
                    have hE1 : ∀ x : Int, x = s0 → x + 256 * s1 + 65536 * s2 + 16777216 * s3 = (pl : Int) := fun x hx => by rw [hx]; omega
                    have hE2 : ∀ x : Int, x = s4 → x + 256 * s5 + 65536 * s6 = (s : Int) := fun x hx => by rw [hx]; omega
                    have HPL : Hid (n % 4294967296 = pl) := hpl
                    have HSI : Hid (sizeIs n = if s = 0 then 65536 else s) := by show _ = _; unfold sizeIs; rw [hs]
                    have hpl5 : pl < 4294967296 := by omega
                    have hs5 : s < 16777216 := by omega
                    have c0' : wr.cell? ⟨W0.heap.size, 0, none⟩ = some (.int .i64 s0) := (cell_of_row _ _ 0 _ _ HRW.out).trans rfl
                    have c1' : wr.cell? ⟨W0.heap.size, 1, none⟩ = some (.int .i64 s1) := (cell_of_row _ _ 1 _ _ HRW.out).trans rfl
                    have c2' : wr.cell? ⟨W0.heap.size, 2, none⟩ = some (.int .i64 s2) := (cell_of_row _ _ 2 _ _ HRW.out).trans rfl
                    have c3' : wr.cell? ⟨W0.heap.size, 3, none⟩ = some (.int .i64 s3) := (cell_of_row _ _ 3 _ _ HRW.out).trans rfl
                    have c4' : wr.cell? ⟨W0.heap.size, 4, none⟩ = some (.int .i64 s4) := (cell_of_row _ _ 4 _ _ HRW.out).trans rfl
                    have c5' : wr.cell? ⟨W0.heap.size, 5, none⟩ = some (.int .i64 s5) := (cell_of_row _ _ 5 _ _ HRW.out).trans rfl
                    have c6' : wr.cell? ⟨W0.heap.size, 6, none⟩ = some (.int .i64 s6) := (cell_of_row _ _ 6 _ _ HRW.out).trans rfl
                    clear hs2 hpl hs HGT HSV
                    by_cases hs0 : s = 0
                    · subst hs0
                      rw [if_pos rfl] at HSI
                      by_cases b2 : m0 < pl + 65536
                      · have HX : Hid (R = (4, [])) := by show _ = _; rw [HGS.out]; exact goStep_out _ _ _ n _ _ _ hy8 HGE.out (by rw [HPL.out, HSI.out, HBB.out.1]; exact b2)
                        by_cases b1 : m0 < pl
                        · have b1b : decide ((m0 : Int) < (pl : Int)) = true := by simp; omega
                          clear HGS HSI
                          go_wp2_with fail
                          go_ret2
                          rw [HX.out]
                          exact ⟨⟨_, rfl, own_nil _ _⟩, HBW.out⟩
                        · have b1b : decide ((m0 : Int) < (pl : Int)) = false := by simp; omega
                          have b2b : decide ((m0 : Int) - (pl : Int) < 65536) = true := by simp; omega
                          clear HGS HSI
                          go_wp2_with fail
                          go_ret2
                          rw [HX.out]
                          exact ⟨⟨_, rfl, own_nil _ _⟩, HBW.out⟩
                      · have b1b : decide ((m0 : Int) < (pl : Int)) = false := by simp; omega
                        have b2b : decide ((m0 : Int) - (pl : Int) < 65536) = false := by simp; omega
                        have HB2 : Hid (¬ base.length < n % 4294967296 + sizeIs n) := by show ¬ (_ < _); rw [HPL.out, HSI.out, HBB.out.1]; exact b2
                        by_cases b3 : sb - no < 65536
                        · have b3b : decide ((sb : Int) - (no : Int) < 65536) = true := by simp; omega
                          have HX : Hid (R = (4, [])) := by show _ = _; rw [HGS.out]; exact goStep_much _ _ _ n _ _ _ hy8 HGE.out HB2.out (by rw [HOL.out, HSI.out]; exact b3)
                          clear HGS HSI
                          go_wp2_with fail
                          go_ret2
                          rw [HX.out]
                          exact ⟨⟨_, rfl, own_nil _ _⟩, HBW.out⟩
                        · have b3b : decide ((sb : Int) - (no : Int) < 65536) = false := by simp; omega
                          have HX : Hid (R = stepsGo base sb (m1 - r + 1) (d.drop r) (out ++ sub base pl 65536)) := by
                            have := goStep_copy base sb y n out _ _ hy8 HGE.out HB2.out (by rw [HOL.out, HSI.out]; exact b3)
                            rw [HPL.out, HSI.out, List.length_drop, HDD.out.1] at this
                            show _ = _
                            rw [HGS.out, this]
                          have HB2N : Hid (pl + 65536 ≤ m0) := by show _ ≤ _; omega
                          have HB3N : Hid (no + 65536 ≤ sb) := by show _ ≤ _; omega
                          have HSL : Hid ((sub base pl 65536).length = 65536) := sub_length _ _ _ (by rw [HBB.out.1]; omega)
                          obtain ⟨b0, off0, rfl, hb0, hc0⟩ : ∃ b0 off0, a0 = some ⟨b0, off0, none⟩ ∧ b0 < w.heap.size ∧ ∀ j, j < m0 → w.cell? ⟨b0, off0 + j, none⟩ = some (.int .u8 (base[j]?.getD 0)) := by
                            rcases HBB.out.2.2.2 with h | ⟨b0, off0, h1, h2⟩
                            · omega
                            · exact ⟨b0, off0, h1, World.block_lt_of_cell? w _ (h2 0 (by omega)), h2⟩
                          have HCB : Hid (∀ W, Below w.heap.size w W → ∀ j, j < m0 → W.cell? ⟨b0, off0 + j, none⟩ = some (.int .u8 (base[j]?.getD 0))) := fun W hW j hj => (hW.cell (p := ⟨b0, _, none⟩) hb0).trans (hc0 j hj)
                          clear HGS HSI HB2 hc0 hb0 HGE
                          go_wp2_with fail
                          try generalize decide (m0 < pl) = db1
                          clear b1b b2b b3b
                          go_loopw [12, 20] (fun o i wq => ∃ (j : Nat) (ao : Option Addr) (co : Nat), i = .int .i64 (j : Int) ∧ j ≤ 65536 ∧ o = .slice ao (no + j) co ∧ Own wq w.heap.size (.slice ao (no + j) co) (no + j) (out ++ (sub base pl 65536).take j) ∧ Below w.heap.size w wq) (fun _ i _ => 65536 - (intOf i).toNat)
                          case atStart => exact ⟨0, ao, co, rfl, by omega, rfl, by simpa using HOW.out, HBW.out⟩
                          case round =>
                            clear HOW HBW
                            obtain ⟨j, ao, co, rfl, hj, rfl, hown, hbel⟩ := hrel
                            have HO : Hid (Own wr w.heap.size (.slice ao (no + j) co) (no + j) (out ++ (sub base pl 65536).take j)) := hown
                            have HBE : Hid (Below w.heap.size w wr) := hbel
                            clear hown hbel
                            by_cases hjy : j < 65536
                            · have hcell := HCB.out wr HBE.out (pl + j) (by have := HB2N.out; omega)
                              have hrj := HBB.out.2.2.1 (pl + j)
                              have HTK : Hid ((sub base pl 65536).take (j + 1) = (sub base pl 65536).take j ++ [base[pl + j]?.getD 0]) := by
                                show _ = _
                                rw [take_next _ _ (by rw [HSL.out]; omega)]
                                unfold sub
                                rw [List.getElem?_take_of_lt hjy, List.getElem?_drop]
                              obtain ⟨z, hz⟩ : ∃ z, base[pl + j]?.getD 0 = z := ⟨_, rfl⟩
                              rw [hz] at hcell hrj HTK
                              clear hz
                              have HLB : Hid (Bytes (wr.alloc (.cells #[.int .u8 z] 5)) (some ⟨wr.heap.size, 0, none⟩) 1 [z]) := Bytes.lit wr _ rfl [z] 5 (0, 0) 1 rfl (by omega) (by simpa using hrj)
                              have HBL : Hid (Below wr.heap.size wr (wr.alloc (.cells #[.int .u8 z] 5))) := (Below.refl _ _).alloc (Nat.le_refl _) _
                              have HBA : Hid (Below w.heap.size w (wr.alloc (.cells #[.int .u8 z] 5))) := HBE.out.trans (HBL.out.mono HBE.out.size)
                              have HOA : Hid (Own (wr.alloc (.cells #[.int .u8 z] 5)) w.heap.size (.slice ao (no + j) co) (no + j) (out ++ (sub base pl 65536).take j)) := HO.out.below HBL.out
                              have hji : (j : Int) < 65536 := by omega
                              go_wp2_with (
                                at_builtin
                                refine wpList_append_bytes rfl _ _ rfl w.heap.size _ (no + j) _ rfl HOA.out _ 1 1 [z] rfl HLB.out (fun e => by cases e) (by have := HB3N.out; omega) HBA.out.size ?_
                                intro v' w4 hown4 hg4
                                have HW4 : Hid (Below w.heap.size w w4) := HBA.out.trans (HOA.out.kept HBA.out.size hg4)
                                rw [List.append_assoc, ← HTK.out, Nat.add_assoc] at hown4
                                have HO4 : Hid (Own w4 w.heap.size v' (no + (j + 1)) (out ++ (sub base pl 65536).take (j + 1))) := hown4
                                obtain ⟨a4, c4, e4, -, -, -⟩ := hown4.shape
                                subst e4
                                clear hown4 hg4)
                              exact ⟨⟨j + 1, a4, c4, by go_num, by omega, rfl, HO4.out, HW4.out⟩, by simp [intOf]; omega⟩
                            · have hje : j = 65536 := by omega
                              have HTA : Hid ((sub base pl 65536).take j = sub base pl 65536) := List.take_of_length_le (by rw [HSL.out]; omega)
                              have HOF : Hid (Own wr w.heap.size (.slice ao (no + j) co) (no + j) (out ++ sub base pl 65536)) := by
                                have := HO.out
                                rwa [HTA.out] at this
                              have hji : ¬ (j : Int) < 65536 := by omega
                              go_wp2_with fail
                              exact ⟨⟨r, no + j, ao, co, out ++ sub base pl 65536, rfl, by omega, rfl, by have := HB3N.out; omega, HOF.out, HX.out, HBE.out⟩, by simp [intOf]; omega⟩
                    · have hsb0 : ((s : Int) == 0) = false := eq_false_of_pos s (by omega)
                      rw [if_neg hs0] at HSI
                      by_cases b2 : m0 < pl + s
                      · have HX : Hid (R = (4, [])) := by show _ = _; rw [HGS.out]; exact goStep_out _ _ _ n _ _ _ hy8 HGE.out (by rw [HPL.out, HSI.out, HBB.out.1]; exact b2)
                        by_cases b1 : m0 < pl
                        · have b1b : decide ((m0 : Int) < (pl : Int)) = true := by simp; omega
                          clear HGS HSI
                          go_wp2_with fail
                          go_ret2
                          rw [HX.out]
                          exact ⟨⟨_, rfl, own_nil _ _⟩, HBW.out⟩
                        · have b1b : decide ((m0 : Int) < (pl : Int)) = false := by simp; omega
                          have b2b : decide ((m0 : Int) - (pl : Int) < (s : Int)) = true := by simp; omega
                          clear HGS HSI
                          go_wp2_with fail
                          go_ret2
                          rw [HX.out]
                          exact ⟨⟨_, rfl, own_nil _ _⟩, HBW.out⟩
                      · have b1b : decide ((m0 : Int) < (pl : Int)) = false := by simp; omega
                        have b2b : decide ((m0 : Int) - (pl : Int) < (s : Int)) = false := by simp; omega
                        have HB2 : Hid (¬ base.length < n % 4294967296 + sizeIs n) := by show ¬ (_ < _); rw [HPL.out, HSI.out, HBB.out.1]; exact b2
                        by_cases b3 : sb - no < s
                        · have b3b : decide ((sb : Int) - (no : Int) < (s : Int)) = true := by simp; omega
                          have HX : Hid (R = (4, [])) := by show _ = _; rw [HGS.out]; exact goStep_much _ _ _ n _ _ _ hy8 HGE.out HB2.out (by rw [HOL.out, HSI.out]; exact b3)
                          clear HGS HSI
                          go_wp2_with fail
                          go_ret2
                          rw [HX.out]
                          exact ⟨⟨_, rfl, own_nil _ _⟩, HBW.out⟩
                        · have b3b : decide ((sb : Int) - (no : Int) < (s : Int)) = false := by simp; omega
                          have HX : Hid (R = stepsGo base sb (m1 - r + 1) (d.drop r) (out ++ sub base pl s)) := by
                            have := goStep_copy base sb y n out _ _ hy8 HGE.out HB2.out (by rw [HOL.out, HSI.out]; exact b3)
                            rw [HPL.out, HSI.out, List.length_drop, HDD.out.1] at this
                            show _ = _
                            rw [HGS.out, this]
                          have HB2N : Hid (pl + s ≤ m0) := by show _ ≤ _; omega
                          have HB3N : Hid (no + s ≤ sb) := by show _ ≤ _; omega
                          have HSL : Hid ((sub base pl s).length = s) := sub_length _ _ _ (by rw [HBB.out.1]; omega)
                          obtain ⟨b0, off0, rfl, hb0, hc0⟩ : ∃ b0 off0, a0 = some ⟨b0, off0, none⟩ ∧ b0 < w.heap.size ∧ ∀ j, j < m0 → w.cell? ⟨b0, off0 + j, none⟩ = some (.int .u8 (base[j]?.getD 0)) := by
                            rcases HBB.out.2.2.2 with h | ⟨b0, off0, h1, h2⟩
                            · omega
                            · exact ⟨b0, off0, h1, World.block_lt_of_cell? w _ (h2 0 (by omega)), h2⟩
                          have HCB : Hid (∀ W, Below w.heap.size w W → ∀ j, j < m0 → W.cell? ⟨b0, off0 + j, none⟩ = some (.int .u8 (base[j]?.getD 0))) := fun W hW j hj => (hW.cell (p := ⟨b0, _, none⟩) hb0).trans (hc0 j hj)
                          clear HGS HSI HB2 hc0 hb0 HGE
                          go_wp2_with fail
                          try generalize decide (m0 < pl) = db1
                          clear b1b b2b b3b
                          go_loopw [12, 20] (fun o i wq => ∃ (j : Nat) (ao : Option Addr) (co : Nat), i = .int .i64 (j : Int) ∧ j ≤ s ∧ o = .slice ao (no + j) co ∧ Own wq w.heap.size (.slice ao (no + j) co) (no + j) (out ++ (sub base pl s).take j) ∧ Below w.heap.size w wq) (fun _ i _ => s - (intOf i).toNat)
                          case atStart => exact ⟨0, ao, co, rfl, by omega, rfl, by simpa using HOW.out, HBW.out⟩
                          case round =>
                            clear HOW HBW
                            obtain ⟨j, ao, co, rfl, hj, rfl, hown, hbel⟩ := hrel
                            have HO : Hid (Own wr w.heap.size (.slice ao (no + j) co) (no + j) (out ++ (sub base pl s).take j)) := hown
                            have HBE : Hid (Below w.heap.size w wr) := hbel
                            clear hown hbel
                            by_cases hjy : j < s
                            · have hcell := HCB.out wr HBE.out (pl + j) (by have := HB2N.out; omega)
                              have hrj := HBB.out.2.2.1 (pl + j)
                              have HTK : Hid ((sub base pl s).take (j + 1) = (sub base pl s).take j ++ [base[pl + j]?.getD 0]) := by
                                show _ = _
                                rw [take_next _ _ (by rw [HSL.out]; omega)]
                                unfold sub
                                rw [List.getElem?_take_of_lt hjy, List.getElem?_drop]
                              obtain ⟨z, hz⟩ : ∃ z, base[pl + j]?.getD 0 = z := ⟨_, rfl⟩
                              rw [hz] at hcell hrj HTK
                              clear hz
                              have HLB : Hid (Bytes (wr.alloc (.cells #[.int .u8 z] 5)) (some ⟨wr.heap.size, 0, none⟩) 1 [z]) := Bytes.lit wr _ rfl [z] 5 (0, 0) 1 rfl (by omega) (by simpa using hrj)
                              have HBL : Hid (Below wr.heap.size wr (wr.alloc (.cells #[.int .u8 z] 5))) := (Below.refl _ _).alloc (Nat.le_refl _) _
                              have HBA : Hid (Below w.heap.size w (wr.alloc (.cells #[.int .u8 z] 5))) := HBE.out.trans (HBL.out.mono HBE.out.size)
                              have HOA : Hid (Own (wr.alloc (.cells #[.int .u8 z] 5)) w.heap.size (.slice ao (no + j) co) (no + j) (out ++ (sub base pl s).take j)) := HO.out.below HBL.out
                              have hji : (j : Int) < (s : Int) := by omega
                              go_wp2_with (
                                at_builtin
                                refine wpList_append_bytes rfl _ _ rfl w.heap.size _ (no + j) _ rfl HOA.out _ 1 1 [z] rfl HLB.out (fun e => by cases e) (by have := HB3N.out; omega) HBA.out.size ?_
                                intro v' w4 hown4 hg4
                                have HW4 : Hid (Below w.heap.size w w4) := HBA.out.trans (HOA.out.kept HBA.out.size hg4)
                                rw [List.append_assoc, ← HTK.out, Nat.add_assoc] at hown4
                                have HO4 : Hid (Own w4 w.heap.size v' (no + (j + 1)) (out ++ (sub base pl s).take (j + 1))) := hown4
                                obtain ⟨a4, c4, e4, -, -, -⟩ := hown4.shape
                                subst e4
                                clear hown4 hg4)
                              exact ⟨⟨j + 1, a4, c4, by go_num, by omega, rfl, HO4.out, HW4.out⟩, by simp [intOf]; omega⟩
                            · have hje : j = s := by omega
                              have HTA : Hid ((sub base pl s).take j = sub base pl s) := List.take_of_length_le (by rw [HSL.out]; omega)
                              have HOF : Hid (Own wr w.heap.size (.slice ao (no + j) co) (no + j) (out ++ sub base pl s)) := by
                                have := HO.out
                                rwa [HTA.out] at this
                              have hji : ¬ (j : Int) < (s : Int) := by omega
                              go_wp2_with fail
                              exact ⟨⟨r, no + j, ao, co, out ++ sub base pl s, rfl, by omega, rfl, by have := HB3N.out; omega, HOF.out, HX.out, HBE.out⟩, by simp [intOf]; omega⟩
          · have HNE : Hid (d.drop p = []) := List.drop_of_length_le (by rw [HDD.out.1]; omega)
            have HX : Hid (R = if no < sb then (4, []) else (0, out)) := by show _ = _; rw [HGO.out, HNE.out, stepsGo_end, HOL.out]
            by_cases hlt : no < sb
            · have hli : ¬ (no : Int) = sb := by omega
              go_wp2_with fail
              go_ret2
              rw [HX.out, if_pos hlt]
              exact ⟨⟨_, rfl, own_nil _ _⟩, HBE.out⟩
            · have hli : (no : Int) = sb := by omega
              go_wp2_with fail
              go_ret2
              rw [HX.out, if_neg hlt]
              exact ⟨⟨_, rfl, by show Own _ _ _ out.length out; rw [HOL.out]; exact HO.out⟩, HBE.out⟩
    · have hsmi : ¬ (sa : Int) = (m0 : Int) := by omega
      go_wp2_with fail
      go_ret2
      rw [HAP.out, if_neg (by omega), if_pos hsm]
      exact ⟨⟨_, rfl, own_nil _ _⟩, Below.refl _ _⟩
  · have hsi : ¬ (se : Int) = 0 := by omega
    go_wp2_with fail
    go_ret2
    rw [HAP.out, if_pos hse]
    exact ⟨⟨_, rfl, own_nil _ _⟩, Below.refl _ _⟩
end Go.Proofs.Ytkpnmagcmpljoaa
