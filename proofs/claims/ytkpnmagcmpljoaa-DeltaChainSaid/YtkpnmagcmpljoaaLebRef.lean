/- The document's row of sevens: the walk. -/
import Derived.Test.YtkpnmagcmpljoaaSevens
namespace Go.Proofs.Ytkpnmagcmpljoaa
open Go.RowKit Plain
set_option linter.unusedVariables false
def oneAt (k : Nat) : Nat := if k ≤ 8 then 2 ^ (7 * k) else 0
theorem oneAt_le (k : Nat) : oneAt k ≤ 72057594037927936 := by
  unfold oneAt
  split
  · rename_i h
    have := Nat.pow_le_pow_right (n := 2) (by omega) (show 7 * k ≤ 56 by omega)
    simpa using this
  · omega
theorem oneAt_next (k : Nat) : (if 36028797018963968 < oneAt k then 0 else 128 * oneAt k) = oneAt (k + 1) := by
  unfold oneAt
  by_cases h8 : k ≤ 8
  · have hc : k = 0 ∨ k = 1 ∨ k = 2 ∨ k = 3 ∨ k = 4 ∨ k = 5 ∨ k = 6 ∨ k = 7 ∨ k = 8 := by omega
    rcases hc with rfl | rfl | rfl | rfl | rfl | rfl | rfl | rfl | rfl <;> decide
  · rw [if_neg h8, if_neg (show ¬ k + 1 ≤ 8 by omega)]
    simp
theorem div_late (n k : Nat) (h : ¬ k ≤ 8) : (4611686018427387903 - n) / 2 ^ (7 * k) = 0 := by
  have := Nat.pow_le_pow_right (n := 2) (by omega) (show 63 ≤ 7 * k by omega)
  apply Nat.div_eq_of_lt
  have e : (2 : Nat) ^ 63 = 9223372036854775808 := by decide
  omega
theorem wrap_nat (y : Nat) (h : y ≤ 4611686018427387903) : wrap64 (y : Int) = (y : Int) := by
  rw [IntWalk.wrap64_in]
  omega
set_option maxRecDepth 100000 in
set_option maxHeartbeats 2000000 in
theorem lebRef_any (a : Option Addr) (m cap : Nat) (xs : List Int) (w : World) (H : Bytes w a m xs) :
    Calls Try.prog 18 #[.slice a m cap] w fun e w' =>
      e = .returned (.tuple #[.int .i64 ((lebOf xs).1 : Int), .int .i64 ((lebOf xs).2.1 : Int), .int .i64 ((lebOf xs).2.2 : Int)]) ∧ w' = w := by
  obtain ⟨hz, hm, hr, hcell⟩ := H
  have HZ : Hid (xs.length = m) := hz
  have HR : Hid (∀ j : Nat, 0 ≤ xs[j]?.getD 0 ∧ xs[j]?.getD 0 ≤ 255) := hr
  have HC : Hid (m = 0 ∨ ∃ b off, a = some ⟨b, off, none⟩ ∧ ∀ j, j < m → w.cell? ⟨b, off + j, none⟩ = some (.int .u8 (xs[j]?.getD 0))) := hcell
  clear hz hr hcell
  go_enter Try.func18, Try.ntmps18
  go_wp2_with fail
  go_loop [5, 6, 7] (fun u v i => ∃ (k n : Nat), k ≤ m ∧ k ≤ 12 ∧ u = .int .i64 (n : Int) ∧ v = .int .i64 (oneAt k : Int) ∧ i = .int .i64 (k : Int) ∧ n < 2 ^ (7 * k) ∧ n ≤ 4611686018427387903 ∧ lebOf xs = lebGo (xs.drop k) k n) (fun _ _ i => m - (intOf i).toNat)
  case atStart => exact ⟨0, 0, by omega, by omega, rfl, rfl, rfl, by simp, by omega, rfl⟩
  case round =>
    obtain ⟨k, n, hk, hk12, rfl, rfl, rfl, hn1, hn2, hgo⟩ := hrel
    have HN1 : Hid (n < 2 ^ (7 * k)) := hn1
    have HGO : Hid (lebOf xs = lebGo (xs.drop k) k n) := hgo
    have HP5 : Hid (oneAt k ≤ 72057594037927936) := oneAt_le k
    have HPN : Hid ((if 36028797018963968 < oneAt k then 0 else 128 * oneAt k) = oneAt (k + 1)) := oneAt_next k
    have HP0 : Hid (if k ≤ 8 then oneAt k = 2 ^ (7 * k) ∧ 0 < oneAt k else oneAt k = 0) := by
      show if _ then _ else _
      unfold oneAt
      split
      · exact ⟨rfl, Nat.two_pow_pos _⟩
      · rfl
    clear hn1 hgo
    by_cases hlt : k < m
    · obtain ⟨b, off, rfl, hcell⟩ : ∃ b off, a = some ⟨b, off, none⟩ ∧ w.cell? ⟨b, off + k, none⟩ = some (.int .u8 (xs[k]?.getD 0)) := by
        rcases HC.out with h | ⟨b, off, h1, h2⟩
        · omega
        · exact ⟨b, off, h1, h2 k hlt⟩
      have hr := HR.out k
      have HD : Hid (xs.drop k = xs[k]?.getD 0 :: xs.drop (k + 1)) := drop_cons xs k (by rw [HZ.out]; exact hlt)
      generalize xs[k]?.getD 0 = x at *
      obtain ⟨x, rfl⟩ := Int.eq_ofNat_of_zero_le hr.1
      have hx5 : x < 256 := by omega
      obtain ⟨d, hd⟩ : ∃ d, x % 128 = d := ⟨_, rfl⟩
      have hand : (x : Int).tmod 128 = (d : Int) := by rw [Int.tmod_eq_emod_of_nonneg (by omega)]; omega
      have hd5 : d < 128 := by omega
      have HDM : Hid (x % 128 = d) := hd
      have HLEB : Hid (lebOf xs = if 12 ≤ k ∨ (4611686018427387903 - n) / 2 ^ (7 * k) < d then (0, 0, 2) else if x < 128 then (n + d * 2 ^ (7 * k), k + 1, 0) else lebGo (xs.drop (k + 1)) (k + 1) (n + d * 2 ^ (7 * k))) := by
        show _ = _
        rw [HGO.out, HD.out, lebGo, Int.toNat_natCast, hd]
      have HNX : Hid (n + d * 2 ^ (7 * k) < 2 ^ (7 * (k + 1))) := seven_lt d n k HN1.out hd5
      have HNM : Hid (¬ (4611686018427387903 - n) / 2 ^ (7 * k) < d → n + d * 2 ^ (7 * k) ≤ 4611686018427387903) := fun h => le_div_high d n k hn2 (by omega)
      clear hd HD HGO
      by_cases h12 : k = 12
      · subst h12
        go_wp2_with fail
        go_ret3
        rw [HLEB.out, if_pos (.inl (by omega))]
        exact ⟨rfl, rfl⟩
      · have h12i : ((k : Int) == 12) = false := by simp; omega
        obtain ⟨P', hP'⟩ : ∃ P', oneAt (k + 1) = P' := ⟨_, rfl⟩
        have HPE : Hid (oneAt (k + 1) = P') := hP'
        rw [hP'] at HPN
        by_cases h8 : k ≤ 8
        · have hp := HP0.out
          rw [if_pos h8] at hp
          obtain ⟨hp1, hp2⟩ := hp
          rw [← hp1] at HLEB HNX HNM
          clear HP0 hp1 HN1 hP'
          obtain ⟨P, hP⟩ : ∃ P, oneAt k = P := ⟨_, rfl⟩
          rw [hP] at HLEB HNX HNM HP5 HPN hp2 ⊢
          clear hP
          have hP5 : P ≤ 72057594037927936 := HP5.out
          obtain ⟨q, hq⟩ : ∃ q, (4611686018427387903 - n) / P = q := ⟨_, rfl⟩
          have hq5 : q ≤ 4611686018427387903 := by rw [← hq]; exact Nat.le_trans (Nat.div_le_self _ _) (by omega)
          have hqi : (4611686018427387903 - (n : Int)).tdiv (P : Int) = (q : Int) := by
            rw [show (4611686018427387903 - (n : Int)) = ((4611686018427387903 - n : Nat) : Int) by omega, Int.tdiv_eq_ediv_of_nonneg (by omega), ← Int.natCast_ediv, hq]
          have hwq := wrap_nat q hq5
          rw [hq] at HLEB HNM
          clear hq
          have hPi : ((P : Int) == 0) = false := by simp; omega
          obtain ⟨y, hy⟩ : ∃ y, d * P = y := ⟨_, rfl⟩
          have hyi : ∀ c : Int, c = (d : Int) → c * (P : Int) = (y : Int) := fun c hc => by rw [hc, ← hy]; simp
          rw [hy] at HLEB HNX HNM
          clear hy
          by_cases hqd : q < d
          · have hdi : decide ((0 : Int) < d) = true := by simp; omega
            have hqb : decide ((q : Int) < d) = true := by simp; omega
            go_wp2_with fail
            go_ret3
            rw [HLEB.out, if_pos (.inr hqd)]
            exact ⟨rfl, rfl⟩
          · have hqb : decide ((q : Int) < d) = false := by simp; omega
            have hzm := HNM.out hqd
            have HZM : Hid (n + y ≤ 4611686018427387903) := hzm
            have HNO : Hid (¬ (12 ≤ k ∨ q < d)) := by show ¬ (12 ≤ k ∨ q < d); omega
            clear HNM
            by_cases hd0 : d = 0
            · have hdi : decide ((0 : Int) < d) = false := by simp; omega
              by_cases hx : x < 128
              · have hxi : (x : Int) < 128 := by omega
                go_wp2_with fail
                go_ret3
                rw [HLEB.out, if_neg HNO.out, if_pos hx]
                exact ⟨rfl, rfl⟩
              · have hxi : ¬ (x : Int) < 128 := by omega
                by_cases hbig : 36028797018963968 < P
                · have hbi : (36028797018963968 : Int) < (P : Int) := by omega
                  have HPX : Hid (0 = P') := by have := HPN.out; rwa [if_pos hbig] at this
                  go_wp2_with fail
                  go_round
                  case rel => exact ⟨k + 1, n + y, by omega, by omega, by go_num, by rw [HPE.out, ← HPX.out]; rfl, by go_num, HNX.out, HZM.out, by rw [HLEB.out, if_neg HNO.out, if_neg hx]⟩
                  case measure => simp [intOf]; omega
                · have hbi : ¬ (36028797018963968 : Int) < (P : Int) := by omega
                  have HPX : Hid (128 * P = P') := by have := HPN.out; rwa [if_neg hbig] at this
                  go_wp2_with fail
                  go_round
                  case rel => exact ⟨k + 1, n + y, by omega, by omega, by go_num, by rw [HPE.out, ← HPX.out]; go_num, by go_num, HNX.out, HZM.out, by rw [HLEB.out, if_neg HNO.out, if_neg hx]⟩
                  case measure => simp [intOf]; omega
            · have hdi : decide ((0 : Int) < d) = true := by simp; omega
              by_cases hx : x < 128
              · have hxi : (x : Int) < 128 := by omega
                go_wp2_with fail
                go_ret3
                rw [HLEB.out, if_neg HNO.out, if_pos hx]
                exact ⟨rfl, rfl⟩
              · have hxi : ¬ (x : Int) < 128 := by omega
                by_cases hbig : 36028797018963968 < P
                · have hbi : (36028797018963968 : Int) < (P : Int) := by omega
                  have HPX : Hid (0 = P') := by have := HPN.out; rwa [if_pos hbig] at this
                  go_wp2_with fail
                  go_round
                  case rel => exact ⟨k + 1, n + y, by omega, by omega, by go_num, by rw [HPE.out, ← HPX.out]; rfl, by go_num, HNX.out, HZM.out, by rw [HLEB.out, if_neg HNO.out, if_neg hx]⟩
                  case measure => simp [intOf]; omega
                · have hbi : ¬ (36028797018963968 : Int) < (P : Int) := by omega
                  have HPX : Hid (128 * P = P') := by have := HPN.out; rwa [if_neg hbig] at this
                  go_wp2_with fail
                  go_round
                  case rel => exact ⟨k + 1, n + y, by omega, by omega, by go_num, by rw [HPE.out, ← HPX.out]; go_num, by go_num, HNX.out, HZM.out, by rw [HLEB.out, if_neg HNO.out, if_neg hx]⟩
                  case measure => simp [intOf]; omega
        · have hp := HP0.out
          rw [if_neg h8] at hp
          rw [div_late n k h8] at HLEB HNM
          by_cases hd0 : d = 0
          · subst hd0
            obtain ⟨P, hP⟩ : ∃ P, oneAt k = P := ⟨_, rfl⟩
            rw [hP] at hp HPN ⊢
            subst hp
            have HNO : Hid (¬ (12 ≤ k ∨ 0 < 0)) := by show ¬ _; omega
            have HZM : Hid (n ≤ 4611686018427387903) := hn2
            have HPX : Hid (0 = P') := HPN.out
            rw [Nat.zero_mul, Nat.add_zero] at HLEB HNX
            clear HP0 HN1 HP5 HNM HPN hP hP'
            by_cases hx : x < 128
            · have hxi : (x : Int) < 128 := by omega
              go_wp2_with fail
              go_ret3
              rw [HLEB.out, if_neg HNO.out, if_pos hx]
              exact ⟨rfl, rfl⟩
            · have hxi : ¬ (x : Int) < 128 := by omega
              go_wp2_with fail
              go_round
              case rel => exact ⟨k + 1, n, by omega, by omega, rfl, by rw [HPE.out, ← HPX.out]; rfl, by go_num, HNX.out, HZM.out, by rw [HLEB.out, if_neg HNO.out, if_neg hx]⟩
              case measure => simp [intOf]; omega
          · have hdi : decide ((0 : Int) < d) = true := by simp; omega
            obtain ⟨P, hP⟩ : ∃ P, oneAt k = P := ⟨_, rfl⟩
            rw [hP] at hp ⊢
            subst hp
            clear HP0 HN1 HP5 HNM HPN hP hP' HPE
            go_wp2_with fail
            go_ret3
            rw [HLEB.out, if_pos (.inr (by omega))]
            exact ⟨rfl, rfl⟩
    · have hki : ¬ (k : Int) < (m : Int) := by omega
      have HE : Hid (lebOf xs = (0, 0, 3)) := by
        show _ = _
        rw [HGO.out, List.drop_of_length_le (by rw [HZ.out]; omega), lebGo]
      go_wp2_with fail
      go_ret3
      rw [HE.out]
      exact ⟨rfl, rfl⟩
end Go.Proofs.Ytkpnmagcmpljoaa
