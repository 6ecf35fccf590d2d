/- What is found of the bytes ahead: plainly, and the walk. -/
import Derived.Test.YteaaoigeopekiaaMet
import Derived.Test.YteaaoigeopekiaaRawLast
namespace Go.Proofs.Yteaaoigeopekiaa
open Go.RowKit Go.WideMaps Go.Maps Plain
set_option linter.unusedVariables false
def same3 (bs : List Int) (p q : Nat) : Bool := bs[p]?.getD 0 == bs[q]?.getD 0 && (bs[p + 1]?.getD 0 == bs[q + 1]?.getD 0 && bs[p + 2]?.getD 0 == bs[q + 2]?.getD 0)
theorem same3_iff (bs : List Int) (p q : Nat) : same3 bs p q = true ↔ row3 bs p = row3 bs q := by
  rw [row3_eq]; unfold same3; simp
/-- The last place ahead of k with the row that begins at k. -/
def lastGo (bs : List Int) (k : Nat) : Nat → Option Nat
  | 0 => none
  | p + 1 => if p + 3 ≤ bs.length ∧ same3 bs p k = true then some p else lastGo bs k p
def extGo (bs : List Int) (p k most : Nat) : Nat → Nat → Nat
  | 0, n => n
  | f + 1, n => if n < most ∧ bs[p + n]?.getD 0 = bs[k + n]?.getD 0 then extGo bs p k most f (n + 1) else n
/-- How many bytes, how far behind. -/
def findN (bs : List Int) (k : Nat) : Nat × Nat :=
  if bs.length < k + 3 then (0, 0) else match lastGo bs k k with
    | none => (0, 0)
    | some p => (extGo bs p k (min 258 (bs.length - k)) 258 3, k - p)
theorem lastGo_none {bs : List Int} {k : Nat} : ∀ j, (∀ p : Nat, p < j → p + 3 ≤ bs.length → row3 bs p ≠ row3 bs k) → lastGo bs k j = none
  | 0, _ => rfl
  | j + 1, h => by
    rw [lastGo, if_neg (fun hc => h j (by omega) hc.1 ((same3_iff _ _ _).1 hc.2)), lastGo_none j (fun p hp => h p (by omega))]
theorem lastGo_some {bs : List Int} {k p : Nat} (h3 : p + 3 ≤ bs.length) (he : row3 bs p = row3 bs k) : ∀ j, p < j → (∀ p' : Nat, p < p' → p' < j → p' + 3 ≤ bs.length → row3 bs p' ≠ row3 bs k) → lastGo bs k j = some p
  | 0, h, _ => by omega
  | j + 1, h, hl => by
    rw [lastGo]
    by_cases hj : p = j
    · subst hj
      rw [if_pos ⟨h3, (same3_iff _ _ _).2 he⟩]
    · rw [if_neg (fun hc => hl j (by omega) (by omega) hc.1 ((same3_iff _ _ _).1 hc.2)), lastGo_some h3 he j (by omega) (fun p' a b => hl p' a (by omega))]
theorem lastGo_ok {bs : List Int} {k : Nat} : ∀ {j p : Nat}, lastGo bs k j = some p → p < j ∧ p + 3 ≤ bs.length ∧ row3 bs p = row3 bs k
  | 0, p, h => by cases h
  | j + 1, p, h => by
    rw [lastGo] at h
    split at h
    · rename_i hc
      injection h with h
      subst h
      exact ⟨by omega, hc.1, (same3_iff _ _ _).1 hc.2⟩
    · have := lastGo_ok h
      exact ⟨by omega, this.2⟩
theorem extGo_same {bs : List Int} {p k most : Nat} : ∀ f g n, most ≤ n + f → most ≤ n + g → extGo bs p k most f n = extGo bs p k most g n
  | 0, 0, n, _, _ => rfl
  | 0, g + 1, n, h, _ => by rw [extGo, extGo, if_neg (fun hc => by omega)]
  | f + 1, 0, n, _, h => by rw [extGo, extGo, if_neg (fun hc => by omega)]
  | f + 1, g + 1, n, h, h' => by
    rw [extGo, extGo]
    split
    · exact extGo_same f g (n + 1) (by omega) (by omega)
    · rfl
theorem extGo_le {bs : List Int} {p k most : Nat} : ∀ f n, n ≤ most → n ≤ extGo bs p k most f n ∧ extGo bs p k most f n ≤ most
  | 0, n, h => ⟨Nat.le_refl _, h⟩
  | f + 1, n, h => by
    rw [extGo]
    split
    · have := extGo_le (bs := bs) (p := p) (k := k) (most := most) f (n + 1) (by omega)
      omega
    · exact ⟨Nat.le_refl _, h⟩
theorem extGo_eq {bs : List Int} {p k most : Nat} : ∀ f n, (∀ j, j < n → bs[p + j]?.getD 0 = bs[k + j]?.getD 0) → ∀ j, j < extGo bs p k most f n → bs[p + j]?.getD 0 = bs[k + j]?.getD 0
  | 0, n, h => h
  | f + 1, n, h => by
    rw [extGo]
    split
    · rename_i hc
      refine extGo_eq f (n + 1) (fun j hj => ?_)
      by_cases hjn : j < n
      · exact h j hjn
      · obtain rfl : j = n := by omega
        exact hc.2
    · exact h
/-- What is found is there. -/
theorem findN_ok {bs : List Int} {k l d : Nat} (h : findN bs k = (l, d)) (hl : l ≠ 0) : 3 ≤ l ∧ l ≤ 258 ∧ k + l ≤ bs.length ∧ 1 ≤ d ∧ d ≤ k ∧ ∀ j, j < l → bs[k - d + j]?.getD 0 = bs[k + j]?.getD 0 := by
  unfold findN at h
  split at h
  · injection h with h1 h2; omega
  · cases hg : lastGo bs k k with
    | none => rw [hg] at h; injection h with h1 h2; omega
    | some p =>
      rw [hg] at h
      injection h with h1 h2
      obtain ⟨p1, p2, p3⟩ := lastGo_ok hg
      have hle := extGo_le (bs := bs) (p := p) (k := k) (most := min 258 (bs.length - k)) 258 3 (by omega)
      rw [h1] at hle
      refine ⟨hle.1, by omega, by omega, by omega, by omega, ?_⟩
      obtain ⟨q0, q1, q2⟩ := (row3_eq bs p k).1 p3
      have := extGo_eq (bs := bs) (p := p) (k := k) (most := min 258 (bs.length - k)) 258 3 (fun j hj => by
        have : j = 0 ∨ j = 1 ∨ j = 2 := by omega
        rcases this with rfl | rfl | rfl <;> assumption)
      rw [h1] at this
      rw [show k - d = p by omega]
      exact this
theorem MetAt.lookN {w : World} {b k : Nat} {bs : List Int} (h : MetAt w b bs k) (hb : ∀ j : Nat, 0 ≤ bs[j]?.getD 0 ∧ bs[j]?.getD 0 ≤ 255) :
    (Instr.lookup 59 (.map (some b)) (.agg (row3 bs k)) true).run Try.prog w = .ok (.tuple #[.int .i64 (((lastGo bs k k).getD 0 : Nat) : Int), .bool (lastGo bs k k).isSome]) w := by
  obtain ⟨kl, hkl⟩ := row3_key bs k hb
  rcases h.look _ kl hkl with ⟨h1, hrun⟩ | ⟨p, p1, p2, p3, p4, hrun⟩
  · rw [lastGo_none k h1]; exact hrun
  · rw [lastGo_some p1 p3 k p2 p4]; exact hrun
set_option maxRecDepth 100000 in
set_option maxHeartbeats 8000000 in
theorem find_any (mb : Nat) (bs : List Int) (a : Option Addr) (m c : Nat) (k : Nat) (hmc : m ≤ c) (hcm : c ≤ 9223372036854775807) (hm : m ≤ 30000) (hk : k < m) (w : World) (H : Bytes w a m bs) (HM : MetAt w mb bs k) :
    Calls Try.prog 31 #[.agg #[.map (some mb)], .slice a m c, .int .i64 (k : Int)] w fun e w' => e = .returned (.tuple #[.int .i64 ((findN bs k).1 : Int), .int .i64 ((findN bs k).2 : Int)]) ∧ Below w.heap.size w w' := by
  have hl : bs.length = m := H.1
  have HY := Lib.hid H
  have HMM := Lib.hid HM
  clear H HM
  by_cases h1 : m < k + 3
  · have h1i : (m : Int) < (k : Int) + 3 := by omega
    have HF : Hid (findN bs k = (0, 0)) := by show _ = _; rw [findN, if_pos (by omega)]
    rw [HF.out]
    clear hl
    go_enter Try.func31, Try.ntmps31
    go_wp2_with fail
    go_ret2
    exact ⟨rfl, (Below.refl _ _).alloc (Nat.le_refl _) _⟩
  · have h1i : ¬ (m : Int) < (k : Int) + 3 := by omega
    have hal : Below w.heap.size w (w.alloc (.cells #[.map (some mb)] 61)) := (Below.refl _ _).alloc (Nat.le_refl _) _
    have HA : Hid (MetAt (w.alloc (.cells #[.map (some mb)] 61)).drew mb bs k) := HMM.out.below hal.drew
    have HAL : Hid (Below w.heap.size w (w.alloc (.cells #[.map (some mb)] 61)).drew) := hal.drew
    have HROW := Lib.hid (rowAt_any a m c bs k (by omega) (by omega) _ (HY.out.below hal.drew))
    have hgx : (w.alloc (.cells #[.map (some mb)] 61)).heap[w.heap.size]? = some (.cells #[.map (some mb)] 61 (0, 0)) := by
      show (w.heap.push _)[w.heap.size]? = _
      simp
    have hsx : w.heap.size < (w.alloc (.cells #[.map (some mb)] 61)).heap.size := by simp
    have kbx : (w.alloc (.cells #[.map (some mb)] 61)).cell? ⟨w.heap.size, 0, none⟩ = some (.map (some mb)) := by
      unfold World.cell?
      simp only []
      rw [hgx]
      rfl
    have HFN : Hid (findN bs k = match lastGo bs k k with
      | none => (0, 0)
      | some p => (extGo bs p k (min 258 (bs.length - k)) 258 3, k - p)) := by show _ = _; rw [findN, if_neg (by omega)]
    have HLK : Hid (∀ W, MetAt W mb bs k → (Instr.lookup 59 (.map (some mb)) (.agg (row3 bs k)) true).run Try.prog W = .ok (.tuple #[.int .i64 (((lastGo bs k k).getD 0 : Nat) : Int), .bool (lastGo bs k k).isSome]) W) := fun W hW => hW.lookN HY.out.2.2.1
    have HLG : Hid (∀ p, lastGo bs k k = some p → p < k) := fun p hp => (lastGo_ok hp).1
    have HL := Lib.hid hl
    clear hgx hal hl
    generalize row3 bs k = R at *
    cases hlg : lastGo bs k k with
    | none =>
      have HF : Hid (findN bs k = (0, 0)) := by show _ = _; rw [HFN.out, hlg]
      rw [HF.out]
      rw [hlg] at HLK
      clear hlg HFN HLG HF
      go_enter Try.func31, Try.ntmps31
      go_wp2_with fail
      go_region_held3 (fun W => W.cell? ⟨w.heap.size, 0, none⟩ = some (.map (some mb)))
        (first | exact kbx | exact jbx | go_keep | assumption)
        (first | (go_at_call 52; refine (HROW.out).mono ?_; rintro e w2 ⟨rfl, hb2⟩; have jbx := (hb2.cell (p := ⟨w.heap.size, 0, none⟩) hsx).trans kbx; have hlk := HLK.out w2 (HA.out.below hb2); have HB2 := Lib.hid hb2; clear hb2))
      go_wp2_with fail
      go_ret2
      exact ⟨rfl, HAL.out.trans (HB2.out.mono HAL.out.size)⟩
    | some p =>
      have hpk : p < k := HLG.out p hlg
      have hpki : ¬ (32768 : Int) < (k : Int) - (p : Int) := by omega
      have HF : Hid (findN bs k = (extGo bs p k (min 258 (m - k)) 258 3, k - p)) := by show _ = _; rw [HFN.out, hlg, HL.out]
      rw [HF.out]
      rw [hlg] at HLK
      clear hlg HFN HLG HF
      obtain ⟨q, hq⟩ : ∃ q, min 258 (m - k) = q := ⟨_, rfl⟩
      have hq3 : 3 ≤ q := by omega
      have hqm : k + q ≤ m := by omega
      have hq258 : q ≤ 258 := by omega
      have hmin : ∀ W : World, Sem.run Try.prog (Builtin.min_ #[3, 3] 3 #[.int .i64 258, .int .i64 ((m : Int) - (k : Int))]) W = .ok (.int .i64 (q : Int)) W := fun W => by
        rw [run_min2, show min 258 ((m : Int) - (k : Int)) = (q : Int) by omega]
      obtain ⟨d, hd⟩ : ∃ d, k - p = d := ⟨_, rfl⟩
      have hdi : (k : Int) - (p : Int) = (d : Int) := by omega
      rw [hq, hd]
      rw [hdi] at hpki
      clear hq hd
      go_enter Try.func31, Try.ntmps31
      go_wp2_with fail
      go_region_held3 (fun W => W.cell? ⟨w.heap.size, 0, none⟩ = some (.map (some mb)))
        (first | exact kbx | exact jbx | go_keep | assumption)
        (first | (go_at_call 52; refine (HROW.out).mono ?_; rintro e w2 ⟨rfl, hb2⟩; have jbx := (hb2.cell (p := ⟨w.heap.size, 0, none⟩) hsx).trans kbx; have hlk := HLK.out w2 (HA.out.below hb2); have HB2 := Lib.hid hb2; clear hb2))
      have HBW : Hid (Below w.heap.size w w2) := HAL.out.trans (HB2.out.mono HAL.out.size)
      clear kbx jbx hlk hsx HROW HLK HA HB2 HAL HMM
      go_wp2_with fail
      clear hmin
      obtain ⟨wo, rfl⟩ : ∃ wo : World, wo = w := ⟨_, rfl⟩
      go_loopw [10] (fun v wr => ∃ j : Nat, v = .int .i64 (j : Int) ∧ 3 ≤ j ∧ j ≤ q ∧ extGo bs p k q 258 3 = extGo bs p k q (q - j) j ∧ Below wo.heap.size wo wr) (fun v _ => q - (intOf v).toNat)
      case atStart => exact ⟨3, rfl, by omega, hq3, extGo_same 258 (q - 3) 3 (by omega) (by omega), HBW.out⟩
      case round =>
        obtain ⟨j, rfl, hj3, hjq, hex, hb⟩ := hrel
        have HE := Lib.hid hex
        have HB := Lib.hid hb
        clear hex hb HBW
        by_cases hlt : j < q
        · have hd1 : decide ((j : Int) < (q : Int)) = true := by simp; omega
          have hd2 : (j : Int) < (q : Int) := by omega
          obtain ⟨i1, e1⟩ : ∃ i1, p + j = i1 := ⟨_, rfl⟩
          obtain ⟨i2, e2⟩ : ∃ i2, k + j = i2 := ⟨_, rfl⟩
          have s1 : (p : Int) + (j : Int) = (i1 : Int) := by omega
          have s2 : (k : Int) + (j : Int) = (i2 : Int) := by omega
          have b1 : (i1 : Int) < (m : Int) := by omega
          have b2 : (i2 : Int) < (m : Int) := by omega
          have w1 : ∀ z : Int, z = (i1 : Int) → IntKind.i64.wrap z = (i1 : Int) := fun z hz => by rw [hz]; exact IntWalk.i64_in _ (by omega)
          have w2 : ∀ z : Int, z = (i2 : Int) → IntKind.i64.wrap z = (i2 : Int) := fun z hz => by rw [hz]; exact IntWalk.i64_in _ (by omega)
          obtain ⟨b, off, rfl⟩ : ∃ b off, a = some ⟨b, off, none⟩ := by
            rcases HY.out.2.2.2 with h | ⟨b, off, rfl, -⟩
            · omega
            · exact ⟨b, off, rfl⟩
          have q1 := (HY.out.below HB.out).cellOf i1 (by omega)
          have q2 := (HY.out.below HB.out).cellOf i2 (by omega)
          have HST : Hid (extGo bs p k q (q - j) j = if j < q ∧ bs[i1]?.getD 0 = bs[i2]?.getD 0 then extGo bs p k q (q - (j + 1)) (j + 1) else j) := by
            show _ = _
            rw [show q - j = (q - (j + 1)) + 1 by omega, extGo, e1, e2]
          clear e1 e2
          generalize bs[i1]?.getD 0 = x1 at *
          generalize bs[i2]?.getD 0 = x2 at *
          by_cases hx : x1 = x2
          · have hxd : (x1 == x2) = true := by simp [hx]
            have HNX : Hid (extGo bs p k q (q - j) j = extGo bs p k q (q - (j + 1)) (j + 1)) := by show _ = _; rw [HST.out, if_pos ⟨hlt, hx⟩]
            clear hx
            go_wp2_with fail
            go_quiet (fail)
            have HBz : Hid (Below wo.heap.size wo (wr.drewN nq)) := ⟨HB.out.1, HB.out.2, HB.out.3, HB.out.4, HB.out.5⟩
            generalize wr.drewN nq = wz at *
            go_wp2_with fail
            exact ⟨⟨j + 1, by go_num, by omega, by omega, HE.out.trans HNX.out, HBz.out⟩, by simp [intOf]; omega⟩
          · have hxd : (x1 == x2) = false := by simp [hx]
            have HNX : Hid (extGo bs p k q (q - j) j = j) := by show _ = _; rw [HST.out, if_neg (fun hc => hx hc.2)]
            go_wp2_with fail
            go_quiet (fail)
            have HBz : Hid (Below wo.heap.size wo (wr.drewN nq)) := ⟨HB.out.1, HB.out.2, HB.out.3, HB.out.4, HB.out.5⟩
            generalize wr.drewN nq = wz at *
            go_wp2_with fail
            go_ret2
            exact ⟨by rw [HE.out, HNX.out]; rfl, HBz.out⟩
        · have hd1 : decide ((j : Int) < (q : Int)) = false := by simp; omega
          have hd2 : ¬ (j : Int) < (q : Int) := by omega
          have HNX : Hid (extGo bs p k q (q - j) j = j) := by show _ = _; rw [show q - j = 0 by omega]; rfl
          go_wp2_with fail
          go_quiet (fail)
          have HBz : Hid (Below wo.heap.size wo (wr.drewN nq)) := ⟨HB.out.1, HB.out.2, HB.out.3, HB.out.4, HB.out.5⟩
          generalize wr.drewN nq = wz at *
          go_wp2_with fail
          go_ret2
          exact ⟨by rw [HE.out, HNX.out]; rfl, HBz.out⟩
end Go.Proofs.Yteaaoigeopekiaa
