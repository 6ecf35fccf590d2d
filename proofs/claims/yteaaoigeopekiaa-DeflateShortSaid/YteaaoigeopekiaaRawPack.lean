/- Packing: the walk; packed and back. -/
import Derived.Test.YteaaoigeopekiaaFixedPack
import Derived.Test.YteaaoigeopekiaaUnpack
import Derived.Test.YteaaoigeopekiaaStoredS
namespace Go.Proofs.Yteaaoigeopekiaa
open Go.RowKit Plain
set_option linter.unusedVariables false
/-- What Raw packs, for at most 30000 bytes. -/
def rawPack (bs : List Int) : List Int := if (packedN bs).length ≤ bs.length + 5 then packedN bs else storedOf 65535 (bs.length + 1) bs
theorem stored_len (bs : List Int) (h : bs.length ≤ 65535) : (storedOf 65535 (bs.length + 1) bs).length = bs.length + 5 := by
  rw [storedOf, if_pos h, List.length_append]
  show 5 + _ = _
  omega
theorem rawPack_le (bs : List Int) (h : bs.length ≤ 30000) : (rawPack bs).length ≤ bs.length + 5 := by
  unfold rawPack
  split
  · assumption
  · rw [stored_len bs (by omega)]; exact Nat.le_refl _
theorem rawPack_le2 (bs : List Int) (h : bs.length ≤ 30000) : (rawPack bs).length ≤ (packedN bs).length := by
  unfold rawPack
  split
  · exact Nat.le_refl _
  · rw [stored_len bs (by omega)]; omega
theorem rawPack_mem (bs : List Int) (hb : ∀ x ∈ bs, 0 ≤ x ∧ x ≤ 255) : ∀ x ∈ rawPack bs, 0 ≤ x ∧ x ≤ 255 := by
  unfold rawPack
  split
  · exact bytesN_range _ _
  · exact storedOf_range (by omega) _ _ hb
theorem rawPack_back {bs : List Int} (hb : ∀ x ∈ bs, 0 ≤ x ∧ x ≤ 255) (h30 : bs.length ≤ 30000) {most : Nat} (hm : bs.length ≤ most) : ∃ q, rawOf (rawPack bs) most = .ok (q, bs) ∧ (q + 7) / 8 = (rawPack bs).length := by
  unfold rawPack
  split
  · exact ⟨_, packed_back hb h30 hm, (packed_len bs).symm⟩
  · have := stored_back (each := 65535) (by omega) (by omega) most (bs.length + 1) bs [] hb (by omega) (by simpa using hm)
    exact ⟨8 * (storedOf 65535 (bs.length + 1) bs).length, this, by omega⟩
theorem storedSize_any (n : Nat) (hn : n ≤ 30000) (w : World) : Calls Try.prog 15 #[.int .i64 (n : Int)] w fun e w' => e = .returned (.int .i64 ((n + 5 : Nat) : Int)) ∧ w = w' := by
  have hq : ((n : Int) + 65535 - 1) / 65535 ≤ 1 := by omega
  have hmax : ∀ W : World, Sem.run Try.prog (Builtin.max_ #[3, 3] 3 #[.int .i64 1, .int .i64 (((n : Int) + 65535 - 1) / 65535)]) W = .ok (.int .i64 1) W := fun W => by
    rw [run_max2, show max 1 (((n : Int) + 65535 - 1) / 65535) = 1 by omega]
  clear hq
  go_enter Try.func15, Try.ntmps15
  go_wp2_with fail
  go_ret
  exact ⟨rfl, rfl⟩
set_option maxRecDepth 100000 in
set_option maxHeartbeats 4000000 in
theorem rawPack_any (a : Option Addr) (m c : Nat) (bs : List Int) (w : World) (H : RowB w a m c bs) (hm : m ≤ 30000) :
    Calls Try.prog 9 #[.slice a m c] w fun e w' => (∃ va vc, e = .returned (.slice va (rawPack bs).length vc) ∧ RowB w' va (rawPack bs).length vc (rawPack bs)) ∧ Below w.heap.size w w' := by
  have HY := Lib.hid H
  have hl := H.len
  by_cases hc : (packedN bs).length ≤ bs.length + 5
  · have HP : Hid (rawPack bs = packedN bs) := by show _ = _; rw [rawPack, if_pos hc]
    rw [HP.out]
    rw [hl] at hc
    have HF := Lib.hid (fixed_any a m c bs w H hm)
    generalize packedN bs = P at *
    generalize hpl : P.length = pl at *
    have hci : (pl : Int) ≤ ((m + 5 : Nat) : Int) := by omega
    have hci2 : (pl : Int) ≤ (m : Int) + 5 := by omega
    clear H hl hpl
    go_enter Try.func9, Try.ntmps9
    go_wp2_with fail
    refine HF.out.mono ?_
    rintro e w1 ⟨⟨va, vc, rfl, hrow⟩, hb⟩
    have HR := Lib.hid hrow
    have HB := Lib.hid hb
    clear hrow hb HF
    go_wp2_with fail
    refine (storedSize_any m hm w1).mono ?_
    rintro e w2 ⟨rfl, rfl⟩
    go_wp2_with fail
    go_ret
    exact ⟨⟨va, vc, rfl, HR.out⟩, HB.out⟩
  · have HP : Hid (rawPack bs = storedOf 65535 (m + 1) bs) := by show _ = _; rw [rawPack, if_neg hc, hl]
    rw [HP.out]
    rw [hl] at hc
    have HF := Lib.hid (fixed_any a m c bs w H hm)
    obtain ⟨S, hS⟩ : ∃ S, storedOf 65535 (m + 1) bs = S := ⟨_, rfl⟩
    rw [hS]
    have HSS := Lib.hid hS
    clear hS HP
    generalize hpp : packedN bs = P at *
    generalize hpl : P.length = pl at *
    have hci : ¬ (pl : Int) ≤ ((m + 5 : Nat) : Int) := by omega
    have hci2 : ¬ (pl : Int) ≤ (m : Int) + 5 := by omega
    clear H hl hpl hpp
    go_enter Try.func9, Try.ntmps9
    go_wp2_with fail
    refine HF.out.mono ?_
    rintro e w1 ⟨⟨va, vc, rfl, hrow⟩, hb⟩
    have HB := Lib.hid hb
    clear hrow HF
    have HY1 := Lib.hid (HY.out.below hb)
    clear hb
    go_wp2_with fail
    refine (storedSize_any m hm w1).mono ?_
    rintro e w2 ⟨rfl, rfl⟩
    have hss := storedS_any a m c bs w1 HY1.out (by omega)
    rw [HSS.out] at hss
    have HS := Lib.hid hss
    clear hss
    go_wp2_with fail
    refine HS.out.mono ?_
    rintro e w3 ⟨⟨sa, sc, rfl, hrow⟩, hb⟩
    have HR := Lib.hid hrow
    have HB3 : Hid (Below w.heap.size w w3) := HB.out.trans (hb.mono HB.out.size)
    clear hrow hb HS
    go_wp2_with fail
    go_ret
    exact ⟨⟨sa, sc, rfl, HR.out⟩, HB3.out⟩
/-! ### The same byte many times -/
theorem run_get (n : Nat) (c : Int) (i : Nat) (h : i < n) : (List.replicate n c)[i]?.getD 0 = c := by
  rw [List.getElem?_replicate, if_pos h]; rfl
theorem extGo_all {bs : List Int} {p k most : Nat} (h : ∀ j, j < most → bs[p + j]?.getD 0 = bs[k + j]?.getD 0) : ∀ f n, n ≤ most → most ≤ n + f → extGo bs p k most f n = most
  | 0, n, h1, h2 => by rw [extGo]; omega
  | f + 1, n, h1, h2 => by
    rw [extGo]
    by_cases hn : n < most
    · rw [if_pos ⟨hn, h n hn⟩]
      exact extGo_all h f (n + 1) (by omega) (by omega)
    · rw [if_neg (fun hc => hn hc.1)]; omega
theorem run_find (n : Nat) (c : Int) (k : Nat) (h1 : 1 ≤ k) (h3 : k + 3 ≤ n) : findN (List.replicate n c) k = (min 258 (n - k), 1) := by
  obtain ⟨p, rfl⟩ : ∃ p, k = p + 1 := ⟨k - 1, by omega⟩
  have hs : same3 (List.replicate n c) p (p + 1) = true := by
    unfold same3
    rw [run_get n c p (by omega), run_get n c (p + 1) (by omega), run_get n c (p + 2) (by omega), run_get n c (p + 1 + 2) (by omega)]
    simp
  have hl : lastGo (List.replicate n c) (p + 1) (p + 1) = some p := by
    rw [lastGo, if_pos ⟨by rw [List.length_replicate]; omega, hs⟩]
  unfold findN
  rw [if_neg (by rw [List.length_replicate]; omega), hl]
  simp only []
  rw [List.length_replicate, extGo_all (fun j hj => by rw [run_get n c _ (by omega), run_get n c _ (by omega)]) 258 3 (by omega) (by omega)]
  congr 1
  omega
theorem run_small (bs : List Int) (k : Nat) (h : bs.length < k + 3) : findN bs k = (0, 0) := by unfold findN; rw [if_pos h]
theorem run_zero (bs : List Int) : findN bs 0 = (0, 0) := by
  unfold findN
  split <;> rfl
theorem stepV_run {n : Nat} {c : Int} {k : Nat} {v : Nat × Nat} (h1 : 1 ≤ k) (h3 : k + 3 ≤ n) : stepL (List.replicate n c) k = min 258 (n - k) ∧ (stepV (List.replicate n c) k v).2 ≤ v.2 + 19 := by
  have hf := run_find n c k h1 h3
  unfold stepL stepV
  rw [hf]
  simp only []
  rw [if_neg (by omega), if_neg (by omega)]
  refine ⟨rfl, ?_⟩
  have := putLen_two (min 258 (n - k)) v (by omega)
  unfold putDist
  rw [if_pos (by omega)]
  show (putLen _ v).2 + 5 ≤ _
  omega
theorem stepV_lit {bs : List Int} {k : Nat} {v : Nat × Nat} (h : findN bs k = (0, 0)) : stepL bs k = 1 ∧ (stepV bs k v).2 ≤ v.2 + 9 := by
  unfold stepL stepV
  rw [h]
  simp only []
  rw [if_pos trivial, if_pos trivial]
  exact ⟨rfl, putS_two _ _⟩
theorem run_pack (n : Nat) (c : Int) : ∀ (f k : Nat) (v : Nat × Nat), 1 ≤ k → k ≤ n → n - k ≤ f → (packGo (List.replicate n c) f k v).2 ≤ v.2 + 19 * ((n - k) / 258) + 19
  | 0, k, v, _, _, _ => by rw [packGo]; omega
  | f + 1, k, v, h1, hkn, hf => by
    rw [packGo, List.length_replicate]
    split
    · omega
    · rename_i hk
      by_cases h3 : k + 3 ≤ n
      · obtain ⟨e1, e2⟩ := stepV_run (c := c) (v := v) h1 h3
        have ih := run_pack n c f (k + min 258 (n - k)) (stepV (List.replicate n c) k v) (by omega) (by omega) (by omega)
        rw [e1]
        by_cases h258 : 258 ≤ n - k
        · rw [Nat.min_eq_left h258] at ih ⊢
          have : (n - (k + 258)) / 258 + 1 = (n - k) / 258 := by omega
          omega
        · rw [Nat.min_eq_right (by omega)] at ih ⊢
          have hend : packGo (List.replicate n c) f (k + (n - k)) (stepV (List.replicate n c) k v) = stepV (List.replicate n c) k v := by
            cases f with
            | zero => rfl
            | succ f => rw [packGo, if_pos (by rw [List.length_replicate]; omega)]
          rw [hend]
          omega
      · have hlit : ∀ k', n < k' + 3 → findN (List.replicate n c) k' = (0, 0) := fun k' h => run_small _ _ (by rw [List.length_replicate]; exact h)
        obtain ⟨e1, e2⟩ := stepV_lit (v := v) (hlit k (by omega))
        rw [e1]
        cases f with
        | zero => rw [packGo]; omega
        | succ f =>
          rw [packGo, List.length_replicate]
          split
          · omega
          · rename_i hk1
            obtain ⟨e3, e4⟩ := stepV_lit (v := stepV (List.replicate n c) k v) (hlit (k + 1) (by omega))
            rw [e3]
            have hend : packGo (List.replicate n c) f (k + 1 + 1) (stepV (List.replicate n c) (k + 1) (stepV (List.replicate n c) k v)) = stepV (List.replicate n c) (k + 1) (stepV (List.replicate n c) k v) := by
              cases f with
              | zero => rfl
              | succ f => rw [packGo, if_pos (by rw [List.length_replicate]; omega)]
            rw [hend]
            omega
theorem run_len (n : Nat) (c : Int) (hn : n ≤ 30000) : (rawPack (List.replicate n c)).length ≤ 20 + n / 50 := by
  refine Nat.le_trans (rawPack_le2 _ (by rw [List.length_replicate]; exact hn)) ?_
  rw [packed_len]
  have h1 : (packV (List.replicate n c)).2 ≤ (packGo (List.replicate n c) n 0 (3, 3)).2 + 9 := by
    unfold packV
    rw [List.length_replicate]
    exact putS_two _ _
  have h2 : (packGo (List.replicate n c) n 0 (3, 3)).2 ≤ 31 + 19 * ((n - 1) / 258) := by
    cases n with
    | zero => show 3 ≤ _; omega
    | succ n =>
      rw [packGo, if_neg (by rw [List.length_replicate]; omega)]
      obtain ⟨e1, e2⟩ := stepV_lit (v := (3, 3)) (run_zero (List.replicate (n + 1) c))
      rw [e1]
      have := run_pack (n + 1) c n (0 + 1) (stepV (List.replicate (n + 1) c) 0 (3, 3)) (by omega) (by omega) (by omega)
      simp only at e2
      omega
  omega
end Go.Proofs.Yteaaoigeopekiaa
