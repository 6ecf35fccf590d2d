/- The signs of a block, by the codes that are given: the walk. -/
import Derived.Test.YtkminkeaeclanaaAgain
import Derived.Test.YtkminkeaeclanaaSignsMath
namespace Go.Proofs.Ytkminkeaeclanaa
open Go.RowKit Plain
set_option linter.unusedVariables false
theorem OutL.pos {w0 : World} {Ob : Nat} {ba : Option Addr} {bn bc N most : Nat} {w : World} {p : Nat} {mv : Value} {made : List Int} (h : OutL 8 w0 Ob ba bn bc N most w p mv made) : p ≤ 8 * bn := by
  obtain ⟨a, hd, l, -, h1, h2, h3, -⟩ := h
  omega
/-- The place of the next bit. -/
def posB (Ob : Nat) (w : World) : Nat := match w.cell? ⟨Ob, 1, none⟩, w.cell? ⟨Ob, 3, none⟩ with
  | some (.int _ a), some (.int _ l) => 8 * a.toNat - l.toNat
  | _, _ => 0
theorem posB_of {w0 : World} {Ob : Nat} {ba : Option Addr} {bn bc N most : Nat} {w : World} {p : Nat} {mv : Value} {made : List Int} (h : OutL 8 w0 Ob ba bn bc N most w p mv made) : posB Ob w = p := by
  obtain ⟨a, hd, l, hh, h1, -⟩ := h
  unfold posB
  rw [(raw_cells hh).2.1, (raw_cells hh).2.2.2.1]
  show 8 * (a : Int).toNat - (l : Int).toNat = p
  omega
theorem length_le {N L p s len q : Nat} (h : lengthN N L p s = .ok (len, q)) (h1 : 257 ≤ s) (h2 : s ≤ 285) : len ≤ 1000 := by
  unfold lengthN at h
  split at h
  · injection h with h; injection h with h _; omega
  · split at h
    · injection h with h; injection h with h _; omega
    · cases hn : num N L p ((s - 261) / 4) with
      | error e => rw [hn] at h; cases h
      | ok v =>
        obtain ⟨x, r⟩ := v
        have h3 := num_ok hn
        rw [hn] at h
        injection h with h; injection h with h _
        have h5 := Nat.pow_le_pow_right (n := 2) (by omega) (show (s - 261) / 4 ≤ 6 by omega)
        have h6 := Nat.mul_le_mul (show 4 + (s - 261) % 4 ≤ 7 by omega) h5
        omega
theorem dist_le {N L p s d q : Nat} (h : distN N L p s = .ok (d, q)) : 0 < d ∧ d ≤ 100000 := by
  unfold distN at h
  split at h
  · cases h
  · split at h
    · injection h with h; injection h with h _; omega
    · cases hn : num N L p ((s - 2) / 2) with
      | error e => rw [hn] at h; cases h
      | ok v =>
        obtain ⟨x, r⟩ := v
        have h3 := num_ok hn
        rw [hn] at h
        injection h with h; injection h with h _
        have h5 := Nat.pow_le_pow_right (n := 2) (by omega) (show (s - 2) / 2 ≤ 13 by omega)
        have h6 := Nat.mul_le_mul (show 2 + s % 2 ≤ 3 by omega) h5
        omega
theorem atP_ok {p : Nat} {r : Except Nat (List Int)} {q : Nat} {m : List Int} (h : atP p r = .ok (q, m)) : r = .ok m ∧ q = p := by
  cases r with
  | error e => cases h
  | ok x => injection h with h; injection h with h1 h2; subst h1 h2; exact ⟨rfl, rfl⟩
theorem atP_err {p : Nat} {r : Except Nat (List Int)} {k : Nat} (h : atP p r = .error k) : r = .error k := by
  cases r with
  | error e => injection h with h; rw [h]
  | ok x => cases h
set_option maxRecDepth 100000 in
set_option maxHeartbeats 8000000 in
theorem signsFix_any {w0 : World} {Ob : Nat} {ba : Option Addr} {bn bc N most : Nat} {bs : List Int} (HS : SrcB w0 ba bn bc N most bs) (w : World) (p : Nat) (mv : Value) (made : List Int) (H : OutL 8 w0 Ob ba bn bc N most w p mv made)
    (nx fr : Nat → Except Nat (Nat × Nat)) (hnx : Adv (8 * bn) nx) (hfr : Adv (8 * bn) fr) (hsmall : ∀ q s r, nx q = .ok (s, r) → s ≤ 100000) (hsmall2 : ∀ q s r, fr q = .ok (s, r) → s ≤ 100000)
    (HN : ∀ (W : World) (q : Nat) (mv' : Value) (m : List Int), Turn Ob mv mv' w W → OutL 8 w0 Ob ba bn bc N most W q mv' m → Calls Try.prog 30 #[.pointer (some ⟨Ob, 0, none⟩)] W (Got w0 Ob ba bn bc N most W mv' m (nx q)))
    (HF : ∀ (W : World) (q : Nat) (mv' : Value) (m : List Int), Turn Ob mv mv' w W → OutL 8 w0 Ob ba bn bc N most W q mv' m → Calls Try.prog 31 #[.pointer (some ⟨Ob, 0, none⟩)] W (Got w0 Ob ba bn bc N most W mv' m (fr q))) :
    Calls Try.prog 29 #[.pointer (some ⟨Ob, 0, none⟩), .func (.func 30) #[.pointer (some ⟨Ob, 0, none⟩)] #[], .func (.func 31) #[.pointer (some ⟨Ob, 0, none⟩)] #[]] w (Mad w0 Ob ba bn bc N most w mv (signsN N (8 * bn) most nx fr p made)) := by
  have HSS := Lib.hid HS
  have HO := Lib.hid H
  have HNX := Lib.hid HN
  have HFR := Lib.hid HF
  have HA1 := Lib.hid hnx
  have HA2 := Lib.hid hfr
  have HM1 := Lib.hid hsmall
  have HM2 := Lib.hid hsmall2
  have hmost := HS.most
  clear HS H HN HF hnx hfr hsmall hsmall2
  go_enter Try.func29, Try.ntmps29
  go_wp2_with fail
  go_loopw [] (fun wr => ∃ (q : Nat) (m : List Int) (mv' : Value), OutL 8 w0 Ob ba bn bc N most wr q mv' m ∧ Turn Ob mv mv' w wr ∧ signsN N (8 * bn) most nx fr p made = signsN N (8 * bn) most nx fr q m) (fun wr => 8 * bn + 1 - posB Ob wr)
  case atStart => exact ⟨p, made, mv, HO.out, Turn.refl _ _ _, rfl⟩
  case round =>
    obtain ⟨q, m, mv1, ho, ht, hs⟩ := hrel
    have HO1 := Lib.hid ho
    have HT1 := Lib.hid ht
    have hq8 := ho.pos
    have hpB := posB_of ho
    have HPB := Lib.hid hpB
    have hstep := hs.trans (signsN_step HA1.out HA2.out q m hq8)
    have HS1 := Lib.hid hstep
    have hcall := HNX.out wr q mv1 m ht ho
    clear ho ht hs hstep HO hpB
    go_wp2_with fail
    refine hcall.mono ?_
    intro e w2 hgot
    obtain ⟨s, r, hr, rfl, ht, ho⟩ | ⟨k, hr, rfl, ht⟩ := hgot.lift
    · have hs5 := HM1.out q s r hr
      have hadv := HA1.out q s r hr
      have HR := Lib.hid hr
      have HO2 := Lib.hid ho
      have HT2 := Lib.hid (HT1.out.trans ht)
      clear hcall hgot hr ht ho
      by_cases h256 : s < 256
      · have h256i : (s : Int) < 256 := by omega
        have hw8 : IntKind.u8.wrap (s : Int) = (s : Int) := by rw [IntKind.wrap_u8]; omega
        have hgive := give_any hmost w2 r mv1 m HO2.out s (by omega)
        go_wp2_with fail
        refine hgive.mono ?_
        rintro e w3 (⟨hroom, rfl, mv2, ho, ht⟩ | ⟨hroom, rfl, ht⟩)
        · have HO3 := Lib.hid ho
          have HT3 := Lib.hid (HT2.out.trans ht)
          have HS3 : Hid (signsN N (8 * bn) most nx fr p made = signsN N (8 * bn) most nx fr r (m ++ [(s : Int)])) := by
            show _ = _
            rw [HS1.out, stepN, HR.out]
            simp only []
            rw [if_pos h256, giveN, if_neg (by omega)]; rfl
          have hpB3 := posB_of ho
          have HPB3 := Lib.hid hpB3
          clear hgive ho ht hpB3
          go_wp2_with fail
          exact ⟨⟨r, m ++ [(s : Int)], mv2, HO3.out, HT3.out, HS3.out⟩, by rw [HPB3.out, HPB.out]; omega⟩
        · have HT3 := Lib.hid (HT2.out.trans ht)
          have HS3 : Hid (signsN N (8 * bn) most nx fr p made = .error 2) := by
            show _ = _
            rw [HS1.out, stepN, HR.out]
            simp only []
            rw [if_pos h256, giveN, if_pos (by omega)]; rfl
          clear hgive ht
          dsimp only [thrown]
          go_wp2_with fail
          exact ⟨rfl, .inr ⟨2, HS3.out, rfl, _, HT3.out⟩⟩
      · have h256i : ¬ (s : Int) < 256 := by omega
        by_cases he : s = 256
        · subst he
          have HS3 : Hid (signsN N (8 * bn) most nx fr p made = .ok (r, m)) := by
            show _ = _
            rw [HS1.out, stepN, HR.out]; rfl
          go_wp2_with fail
          go_end0
          exact .inl ⟨r, m, mv1, HS3.out, rfl, HT2.out, HO2.out⟩
        · have hei : ((s : Int) == 256) = false := by simp; omega
          by_cases hbad : 286 ≤ s
          · have hbi : (286 : Int) ≤ (s : Int) := by omega
            have HS3 : Hid (signsN N (8 * bn) most nx fr p made = .error 4) := by
              show _ = _
              rw [HS1.out, stepN, HR.out]
              simp only []
              rw [if_neg h256, if_neg he, if_pos hbad]; rfl
            go_wp2_with fail
            refine (with_any 4 w2).mono ?_
            rintro e w3 ⟨rfl, rfl⟩
            dsimp only [thrown]
            go_wp2_with fail
            exact ⟨rfl, .inr ⟨4, HS3.out, rfl, _, HT2.out⟩⟩
          · have hbi : ¬ (286 : Int) ≤ (s : Int) := by omega
            have hlen := length_any HSS.out w2 r mv1 m HO2.out s (by omega) (by omega)
            have HS3 : Hid (stepN N (8 * bn) most nx fr q m = match lengthN N (8 * bn) r s with
                | .error e => .error e
                | .ok (len, r) => match fr r with
                  | .error e => .error e
                  | .ok (t, u) => match distN N (8 * bn) u t with
                    | .error e => .error e
                    | .ok (d, v) => match againN most m len d with
                      | .error e => .error e
                      | .ok m => .ok (true, v, m)) := by
              show _ = _
              rw [stepN, HR.out]
              simp only []
              rw [if_neg h256, if_neg he, if_neg hbad]
              cases lengthN N (8 * bn) r s with
              | error e => rfl
              | ok v =>
                obtain ⟨a, b⟩ := v
                simp only []
                cases fr b with
                | error e => rfl
                | ok v =>
                  obtain ⟨c, d⟩ := v
                  simp only []
                  cases distN N (8 * bn) d c with
                  | error e => rfl
                  | ok v =>
                    obtain ⟨x, y⟩ := v
                    simp only []
                    cases againN most m a x <;> rfl
            go_wp2_with fail
            refine hlen.mono ?_
            intro e w3 hgot
            obtain ⟨len, r2, hr, rfl, ht, ho⟩ | ⟨k, hr, rfl, ht⟩ := hgot.lift
            · have hl5 := length_le hr (by omega) (by omega)
              have hadv2 := adv_length hadv.2 hr
              have HR2 := Lib.hid hr
              have HO3 := Lib.hid ho
              have HT3 := Lib.hid (HT2.out.trans ht)
              have hcall := HFR.out w3 r2 mv1 m HT3.out ho
              clear hlen hgot hr ht ho
              go_wp2_with fail
              refine hcall.mono ?_
              intro e w4 hgot
              obtain ⟨t, u, hr, rfl, ht, ho⟩ | ⟨k, hr, rfl, ht⟩ := hgot.lift
              · have ht5 := HM2.out r2 t u hr
                have hadv3 := HA2.out r2 t u hr
                have HR3 := Lib.hid hr
                have HT4 := Lib.hid (HT3.out.trans ht)
                have hdist := distance_any HSS.out w4 u mv1 m ho t ht5
                clear hcall hgot hr ht ho
                go_wp2_with fail
                refine hdist.mono ?_
                intro e w5 hgot
                obtain ⟨d, v, hr, rfl, ht, ho⟩ | ⟨k, hr, rfl, ht⟩ := hgot.lift
                · have hd5 := dist_le hr
                  have hadv4 := adv_dist hadv3.2 hr
                  have HR4 := Lib.hid hr
                  have HT5 := Lib.hid (HT4.out.trans ht)
                  have hagain := again_any hmost w5 v mv1 m ho len d (by omega) (by omega) (by omega)
                  clear hdist hgot hr ht ho
                  go_wp2_with fail
                  refine hagain.mono ?_
                  rintro e w6 (⟨q6, m6, mv6, hr, rfl, ht, ho⟩ | ⟨k, hr, rfl, mv6, ht⟩)
                  · obtain ⟨hag, hqv⟩ := atP_ok hr
                    have hqv2 := hqv.symm
                    subst hqv2
                    clear hqv
                    have HO6 := Lib.hid ho
                    have HT6 := Lib.hid (HT5.out.trans ht)
                    have HS6 : Hid (signsN N (8 * bn) most nx fr p made = signsN N (8 * bn) most nx fr v m6) := by
                      show _ = _
                      rw [HS1.out, HS3.out, HR2.out]; simp only []; rw [HR3.out]; simp only []; rw [HR4.out]; simp only []; rw [hag]; rfl
                    have hpB6 := posB_of ho
                    have HPB6 := Lib.hid hpB6
                    clear hagain hr ht ho hag hpB6
                    go_wp2_with fail
                    exact ⟨⟨v, m6, mv6, HO6.out, HT6.out, HS6.out⟩, by rw [HPB6.out, HPB.out]; omega⟩
                  · have hag := atP_err hr
                    have HT6 := Lib.hid (HT5.out.trans ht)
                    have HS6 : Hid (signsN N (8 * bn) most nx fr p made = .error k) := by
                      show _ = _
                      rw [HS1.out, HS3.out, HR2.out]; simp only []; rw [HR3.out]; simp only []; rw [HR4.out]; simp only []; rw [hag]; rfl
                    clear hagain hr ht hag
                    go_wp2_with fail
                    exact ⟨rfl, .inr ⟨k, HS6.out, rfl, _, HT6.out⟩⟩
                · have HT5 := Lib.hid (HT4.out.trans ht)
                  have HS6 : Hid (signsN N (8 * bn) most nx fr p made = .error k) := by
                    show _ = _
                    rw [HS1.out, HS3.out, HR2.out]; simp only []; rw [HR3.out]; simp only []; rw [hr]; rfl
                  clear hdist hgot hr ht
                  go_wp2_with fail
                  exact ⟨rfl, .inr ⟨k, HS6.out, rfl, _, HT5.out⟩⟩
              · have HT4 := Lib.hid (HT3.out.trans ht)
                have HS6 : Hid (signsN N (8 * bn) most nx fr p made = .error k) := by
                  show _ = _
                  rw [HS1.out, HS3.out, HR2.out]; simp only []; rw [hr]; rfl
                clear hcall hgot hr ht
                go_wp2_with fail
                exact ⟨rfl, .inr ⟨k, HS6.out, rfl, _, HT4.out⟩⟩
            · have HT3 := Lib.hid (HT2.out.trans ht)
              have HS6 : Hid (signsN N (8 * bn) most nx fr p made = .error k) := by
                show _ = _
                rw [HS1.out, HS3.out, hr]; rfl
              clear hlen hgot hr ht
              go_wp2_with fail
              exact ⟨rfl, .inr ⟨k, HS6.out, rfl, _, HT3.out⟩⟩
    · have HT2 := Lib.hid (HT1.out.trans ht)
      have HS3 : Hid (signsN N (8 * bn) most nx fr p made = .error k) := by
        show _ = _
        rw [HS1.out, stepN, hr]; rfl
      clear hcall hgot hr ht
      go_wp2_with fail
      exact ⟨rfl, .inr ⟨k, HS3.out, rfl, _, HT2.out⟩⟩
end Go.Proofs.Ytkminkeaeclanaa
