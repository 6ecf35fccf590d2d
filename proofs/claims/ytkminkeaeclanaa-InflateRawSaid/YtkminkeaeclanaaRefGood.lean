/- The document's unpacking: are lengths a good code's? -/
import Derived.Test.YtkminkeaeclanaaRefState
import Derived.Test.YtkminkeaeclanaaCodeOf
namespace Go.Proofs.Ytkminkeaeclanaa
open Go.RowKit Plain
set_option linter.unusedVariables false
set_option linter.unusedSimpArgs false
structure GSt where
  sum : Nat
  many : Nat
  first : Nat
def gdTo (ls : List Nat) : Nat → GSt
  | 0 => ⟨0, 0, 0⟩
  | i + 1 => if 0 < ls.getD i 0 then ⟨(gdTo ls i).sum + 32768 / 2 ^ ls.getD i 0, (gdTo ls i).many + 1, ls.getD i 0⟩ else gdTo ls i
def goodR (ls : List Nat) (none : Bool) : Bool := (gdTo ls ls.length).sum == 32768 || ((gdTo ls ls.length).many == 1 && (gdTo ls ls.length).first == 1) || (none && (gdTo ls ls.length).many == 0)
set_option maxRecDepth 100000 in
set_option maxHeartbeats 8000000 in
theorem rgood_any (w : World) (a : Option Addr) (n c : Nat) (ls : List Nat) (none : Bool) (hnc : n ≤ c) (hn : n ≤ 1000) (H : NumsAt w a n ls) (h15 : ∀ i, ls.getD i 0 ≤ 15) :
    Calls Try.prog 39 #[.slice a n c, .bool none] w fun e w' => e = .returned (.bool (goodR ls none)) ∧ w = w' := by
  have HH := Lib.hid H
  have H15 := Lib.hid h15
  have HLN : Hid (ls.length = n) := H.1
  clear H h15
  go_enter Try.func39, Try.ntmps39
  go_wp2_with fail
  go_loopw [5, 6, 7, 8] (fun vs vm vf vi wz => ∃ (i : Nat) (st : GSt), vi = .int .i64 (i : Int) ∧ i ≤ n ∧ gdTo ls i = st ∧ vs = .int .i64 (st.sum : Int) ∧ vm = .int .i64 (st.many : Int) ∧ vf = .int .i64 (st.first : Int) ∧ st.sum ≤ 32768 * i ∧ st.many ≤ i ∧ st.first ≤ 15 ∧ wz = w) (fun _ _ _ vi _ => n - (intOf vi).toNat)
  case atStart => exact ⟨0, ⟨0, 0, 0⟩, rfl, Nat.zero_le _, rfl, rfl, rfl, rfl, Nat.zero_le _, Nat.zero_le _, Nat.zero_le _, rfl⟩
  case round =>
    obtain ⟨i, ⟨su, ma, fi⟩, rfl, hi, hst, rfl, rfl, rfl, h1, h2, h3, rfl⟩ := hrel
    have HST := Lib.hid hst
    simp only at h1 h2 h3 ⊢
    clear hst
    by_cases hlt : i < n
    · have hli : (i : Int) < (n : Int) := by omega
      obtain ⟨ga, go, rfl, hcell⟩ := HH.out.2 i hlt
      have hy := H15.out i
      obtain ⟨y, ey⟩ : ∃ y, ls.getD i 0 = y := ⟨_, rfl⟩
      have HY := Lib.hid ey
      rw [ey] at hcell hy
      clear ey
      by_cases hy0 : 0 < y
      · have hyi : 0 < (y : Int) := by omega
        go_wp2_with fail
        go_loopw [9, 10] (fun vp vk wz => ∃ k : Nat, vk = .int .i64 (k : Int) ∧ k ≤ y ∧ vp = .int .i64 ((32768 / 2 ^ k : Nat) : Int) ∧ wz = wr) (fun _ vk _ => y - (intOf vk).toNat)
        case atStart => exact ⟨0, rfl, Nat.zero_le _, rfl, rfl⟩
        case round =>
          obtain ⟨k, rfl, hk, rfl, rfl⟩ := hrel
          have HP2 : Hid (32768 / 2 ^ (k + 1) = 32768 / 2 ^ k / 2) := by show _ = _; rw [Nat.pow_succ, Nat.div_div_eq_div_mul]
          have hp2 : 32768 / 2 ^ k ≤ 32768 := Nat.div_le_self _ _
          obtain ⟨o, ho2⟩ : ∃ o, 32768 / 2 ^ k = o := ⟨_, rfl⟩
          have HO := Lib.hid ho2
          rw [ho2] at hp2 HP2
          rw [ho2]
          clear ho2
          by_cases hky : k < y
          · have hki : (k : Int) < (y : Int) := by omega
            go_wp2_with fail
            go_roundw
            case rel => exact ⟨k + 1, by go_num, by omega, by rw [HP2.out]; go_num, trivial⟩
            case measure => simp [intOf]; go_num
          · have hki : ¬ (k : Int) < (y : Int) := by omega
            have HKY : Hid (k = y) := by show _ = _; omega
            go_wp2_with fail
            go_roundw
            case rel => exact ⟨i + 1, ⟨su + o, ma + 1, y⟩, by go_num, by omega, by rw [gdTo, HST.out, HY.out, if_pos hy0, ← HO.out, HKY.out], by go_num, by go_num, rfl, by show su + o ≤ _; omega, by show ma + 1 ≤ _; omega, hy, trivial⟩
            case measure => simp [intOf]; go_num
      · have hyi : ¬ 0 < (y : Int) := by omega
        go_wp2_with fail
        go_roundw
        case rel => exact ⟨i + 1, ⟨su, ma, fi⟩, by go_num, by omega, by rw [gdTo, HY.out, if_neg hy0, HST.out], rfl, rfl, rfl, by show su ≤ _; omega, by show ma ≤ _; omega, h3, trivial⟩
        case measure => simp [intOf]; go_num
    · have hli : ¬ (i : Int) < (n : Int) := by omega
      have HRES : Hid (goodR ls none = (su == 32768 || (ma == 1 && fi == 1) || (none && ma == 0))) := by
        show _ = _
        unfold goodR
        rw [HLN.out, show n = i by omega, HST.out]
      by_cases c1 : su = 32768
      · have k1 : (su : Int) = 32768 := by omega
        go_wp2_with fail
        go_ret
        rw [HRES.out, c1]
        exact ⟨rfl, rfl⟩
      · have k1 : ¬ (su : Int) = 32768 := by omega
        by_cases c2 : ma = 1
        · have k2 : (ma : Int) = 1 := by omega
          by_cases c3 : fi = 1
          · have k3 : (fi : Int) = 1 := by omega
            go_wp2_with fail
            go_ret
            rw [HRES.out, c2, c3]
            simp
          · have k3 : ¬ (fi : Int) = 1 := by omega
            cases none
            all_goals
              go_wp2_with fail
              go_ret
              rw [HRES.out, c2]
              simp [c1, c3] <;> (rw [Bool.eq_iff_iff]; simp; omega)
        · have k2 : ¬ (ma : Int) = 1 := by omega
          cases none
          · go_wp2_with fail
            go_ret
            rw [HRES.out]
            simp [c1, c2] <;> (rw [Bool.eq_iff_iff]; simp; omega)
          · by_cases c4 : ma = 0
            · have k4 : (ma : Int) = 0 := by omega
              go_wp2_with fail
              go_ret
              rw [HRES.out]
              simp [c4] <;> (rw [Bool.eq_iff_iff]; simp; omega)
            · have k4 : ¬ (ma : Int) = 0 := by omega
              go_wp2_with fail
              go_ret
              rw [HRES.out]
              simp [c1, c2, c4] <;> (rw [Bool.eq_iff_iff]; simp; omega)
end Go.Proofs.Ytkminkeaeclanaa
