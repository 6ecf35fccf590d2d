/- The signs of a block, by own codes: the walk. -/
import Derived.Test.YtglgchjkonjpiaaGreatDoorInfB
import Derived.Test.YtglgchjkonjpiaaGreatDoorBase
/-! The signs of a block, by own codes: the walk. -/
namespace Go.Proofs.YtglgchjkonjpiaaGreatDoor
open Go.RowKit Plain
set_option linter.unusedVariables false
set_option maxRecDepth 100000 in
set_option maxHeartbeats 8000000 in
theorem signsOwn_any {w0 : World} {Ob : Nat} {ba : Option Addr} {bn bc N most : Nat} {bs : List Int} (HS : SrcB w0 ba bn bc N most bs) (w : World) (p : Nat) (mv : Value) (made : List Int) (H : OutL 8 w0 Ob ba bn bc N most w p mv made) (b2 b4 b5 : Addr)
    (nx fr : Nat → Except Nat (Nat × Nat)) (hnx : Adv (8 * bn) nx) (hfr : Adv (8 * bn) fr) (hsmall : ∀ q s r, nx q = .ok (s, r) → s ≤ 100000) (hsmall2 : ∀ q s r, fr q = .ok (s, r) → s ≤ 100000)
    (HN : ∀ (W : World) (q : Nat) (mv' : Value) (m : List Int), Turn Ob mv mv' w W → OutL 8 w0 Ob ba bn bc N most W q mv' m → Calls Tryz.prog 91 #[.pointer (some b2), .pointer (some b4)] W (Got w0 Ob ba bn bc N most W mv' m (nx q)))
    (HF : ∀ (W : World) (q : Nat) (mv' : Value) (m : List Int), Turn Ob mv mv' w W → OutL 8 w0 Ob ba bn bc N most W q mv' m → Calls Tryz.prog 93 #[.pointer (some b2), .pointer (some b5)] W (Got w0 Ob ba bn bc N most W mv' m (fr q))) :
    Calls Tryz.prog 87 #[.pointer (some ⟨Ob, 0, none⟩), .func (.func 91) #[] #[.pointer (some b2), .pointer (some b4)], .func (.func 93) #[] #[.pointer (some b2), .pointer (some b5)]] w (Mad w0 Ob ba bn bc N most w mv (signsN N (8 * bn) most nx fr p made)) := by
  have HSS := Lib.hid HS
  have HO := Lib.hid H
  have HNX := Lib.hid HN
  have HFR := Lib.hid HF
  have HA1 := Lib.hid hnx
  have HA2 := Lib.hid hfr
  have HM1 := Lib.hid hsmall
  have HM2 := Lib.hid hsmall2
  have hmost := HS.most
  clear HS H HN HF hnx hfr hsmall hsmall2
  go_enter Tryz.func87, Tryz.ntmps87
  go_wp2_with fail
  go_loopw [] (fun wr => ∃ (q : Nat) (m : List Int) (mv' : Value), OutL 8 w0 Ob ba bn bc N most wr q mv' m ∧ Turn Ob mv mv' w wr ∧ signsN N (8 * bn) most nx fr p made = signsN N (8 * bn) most nx fr q m) (fun wr => 8 * bn + 1 - posB Ob wr)
  case atStart => exact ⟨p, made, mv, HO.out, Turn.refl _ _ _, rfl⟩
  case round =>
    obtain ⟨q, m, mv1, ho, ht, hs⟩ := hrel
    have HO1 := Lib.hid ho
    have HT1 := Lib.hid ht
    have hq8 := ho.pos
    have hpB := posB_of ho
    have HPB := Lib.hid hpB
    have hstep := hs.trans (signsN_step HA1.out HA2.out q m hq8)
    have HS1 := Lib.hid hstep
    have hcall := HNX.out wr q mv1 m ht ho
    clear ho ht hs hstep HO hpB
    go_wp2_with fail
    refine hcall.mono ?_
    intro e w2 hgot
    obtain ⟨s, r, hr, rfl, ht, ho⟩ | ⟨k, hr, rfl, ht⟩ := hgot.lift
    · have hs5 := HM1.out q s r hr
      have hadv := HA1.out q s r hr
      have HR := Lib.hid hr
      have HO2 := Lib.hid ho
      have HT2 := Lib.hid (HT1.out.trans ht)
      clear hcall hgot hr ht ho
      by_cases h256 : s < 256
      · have h256i : (s : Int) < 256 := by omega
        have hw8 : IntKind.u8.wrap (s : Int) = (s : Int) := by rw [IntKind.wrap_u8]; omega
        have hgive := give_any hmost w2 r mv1 m HO2.out s (by omega)
        go_wp2_with fail
        refine hgive.mono ?_
        rintro e w3 (⟨hroom, rfl, mv2, ho, ht⟩ | ⟨hroom, rfl, ht⟩)
        · have HO3 := Lib.hid ho
          have HT3 := Lib.hid (HT2.out.trans ht)
          have HS3 : Hid (signsN N (8 * bn) most nx fr p made = signsN N (8 * bn) most nx fr r (m ++ [(s : Int)])) := by
            show _ = _
            rw [HS1.out, stepN, HR.out]
            simp only []
            rw [if_pos h256, giveN, if_neg (by omega)]; rfl
          have hpB3 := posB_of ho
          have HPB3 := Lib.hid hpB3
          clear hgive ho ht hpB3
          go_wp2_with fail
          exact ⟨⟨r, m ++ [(s : Int)], mv2, HO3.out, HT3.out, HS3.out⟩, by rw [HPB3.out, HPB.out]; omega⟩
        · have HT3 := Lib.hid (HT2.out.trans ht)
          have HS3 : Hid (signsN N (8 * bn) most nx fr p made = .error 2) := by
            show _ = _
            rw [HS1.out, stepN, HR.out]
            simp only []
            rw [if_pos h256, giveN, if_pos (by omega)]; rfl
          clear hgive ht
          dsimp only [thrown]
          go_wp2_with fail
          exact ⟨rfl, .inr ⟨2, HS3.out, rfl, _, HT3.out⟩⟩
      · have h256i : ¬ (s : Int) < 256 := by omega
        by_cases he : s = 256
        · subst he
          have HS3 : Hid (signsN N (8 * bn) most nx fr p made = .ok (r, m)) := by
            show _ = _
            rw [HS1.out, stepN, HR.out]; rfl
          go_wp2_with fail
          go_end0
          exact .inl ⟨r, m, mv1, HS3.out, rfl, HT2.out, HO2.out⟩
        · have hei : ((s : Int) == 256) = false := by simp; omega
          by_cases hbad : 286 ≤ s
          · have hbi : (286 : Int) ≤ (s : Int) := by omega
            have HS3 : Hid (signsN N (8 * bn) most nx fr p made = .error 4) := by
              show _ = _
              rw [HS1.out, stepN, HR.out]
              simp only []
              rw [if_neg h256, if_neg he, if_pos hbad]; rfl
            go_wp2_with fail
            refine (with_any 4 w2).mono ?_
            rintro e w3 ⟨rfl, rfl⟩
            dsimp only [thrown]
            go_wp2_with fail
            exact ⟨rfl, .inr ⟨4, HS3.out, rfl, _, HT2.out⟩⟩
          · have hbi : ¬ (286 : Int) ≤ (s : Int) := by omega
            have hlen := length_any HSS.out w2 r mv1 m HO2.out s (by omega) (by omega)
            have HS3 : Hid (stepN N (8 * bn) most nx fr q m = match lengthN N (8 * bn) r s with
                | .error e => .error e
                | .ok (len, r) => match fr r with
                  | .error e => .error e
                  | .ok (t, u) => match distN N (8 * bn) u t with
                    | .error e => .error e
                    | .ok (d, v) => match againN most m len d with
                      | .error e => .error e
                      | .ok m => .ok (true, v, m)) := by
              show _ = _
              rw [stepN, HR.out]
              simp only []
              rw [if_neg h256, if_neg he, if_neg hbad]
              cases lengthN N (8 * bn) r s with
              | error e => rfl
              | ok v =>
                obtain ⟨a, b⟩ := v
                simp only []
                cases fr b with
                | error e => rfl
                | ok v =>
                  obtain ⟨c, d⟩ := v
                  simp only []
                  cases distN N (8 * bn) d c with
                  | error e => rfl
                  | ok v =>
                    obtain ⟨x, y⟩ := v
                    simp only []
                    cases againN most m a x <;> rfl
            go_wp2_with fail
            refine hlen.mono ?_
            intro e w3 hgot
            obtain ⟨len, r2, hr, rfl, ht, ho⟩ | ⟨k, hr, rfl, ht⟩ := hgot.lift
            · have hl5 := length_le hr (by omega) (by omega)
              have hadv2 := adv_length hadv.2 hr
              have HR2 := Lib.hid hr
              have HO3 := Lib.hid ho
              have HT3 := Lib.hid (HT2.out.trans ht)
              have hcall := HFR.out w3 r2 mv1 m HT3.out ho
              clear hlen hgot hr ht ho
              go_wp2_with fail
              refine hcall.mono ?_
              intro e w4 hgot
              obtain ⟨t, u, hr, rfl, ht, ho⟩ | ⟨k, hr, rfl, ht⟩ := hgot.lift
              · have ht5 := HM2.out r2 t u hr
                have hadv3 := HA2.out r2 t u hr
                have HR3 := Lib.hid hr
                have HT4 := Lib.hid (HT3.out.trans ht)
                have hdist := distance_any HSS.out w4 u mv1 m ho t ht5
                clear hcall hgot hr ht ho
                go_wp2_with fail
                refine hdist.mono ?_
                intro e w5 hgot
                obtain ⟨d, v, hr, rfl, ht, ho⟩ | ⟨k, hr, rfl, ht⟩ := hgot.lift
                · have hd5 := dist_le hr
                  have hadv4 := adv_dist hadv3.2 hr
                  have HR4 := Lib.hid hr
                  have HT5 := Lib.hid (HT4.out.trans ht)
                  have hagain := again_any hmost w5 v mv1 m ho len d (by omega) (by omega) (by omega)
                  clear hdist hgot hr ht ho
                  go_wp2_with fail
                  refine hagain.mono ?_
                  rintro e w6 (⟨q6, m6, mv6, hr, rfl, ht, ho⟩ | ⟨k, hr, rfl, mv6, ht⟩)
                  · obtain ⟨hag, hqv⟩ := atP_ok hr
                    have hqv2 := hqv.symm
                    subst hqv2
                    clear hqv
                    have HO6 := Lib.hid ho
                    have HT6 := Lib.hid (HT5.out.trans ht)
                    have HS6 : Hid (signsN N (8 * bn) most nx fr p made = signsN N (8 * bn) most nx fr v m6) := by
                      show _ = _
                      rw [HS1.out, HS3.out, HR2.out]; simp only []; rw [HR3.out]; simp only []; rw [HR4.out]; simp only []; rw [hag]; rfl
                    have hpB6 := posB_of ho
                    have HPB6 := Lib.hid hpB6
                    clear hagain hr ht ho hag hpB6
                    go_wp2_with fail
                    exact ⟨⟨v, m6, mv6, HO6.out, HT6.out, HS6.out⟩, by rw [HPB6.out, HPB.out]; omega⟩
                  · have hag := atP_err hr
                    have HT6 := Lib.hid (HT5.out.trans ht)
                    have HS6 : Hid (signsN N (8 * bn) most nx fr p made = .error k) := by
                      show _ = _
                      rw [HS1.out, HS3.out, HR2.out]; simp only []; rw [HR3.out]; simp only []; rw [HR4.out]; simp only []; rw [hag]; rfl
                    clear hagain hr ht hag
                    go_wp2_with fail
                    exact ⟨rfl, .inr ⟨k, HS6.out, rfl, _, HT6.out⟩⟩
                · have HT5 := Lib.hid (HT4.out.trans ht)
                  have HS6 : Hid (signsN N (8 * bn) most nx fr p made = .error k) := by
                    show _ = _
                    rw [HS1.out, HS3.out, HR2.out]; simp only []; rw [HR3.out]; simp only []; rw [hr]; rfl
                  clear hdist hgot hr ht
                  go_wp2_with fail
                  exact ⟨rfl, .inr ⟨k, HS6.out, rfl, _, HT5.out⟩⟩
              · have HT4 := Lib.hid (HT3.out.trans ht)
                have HS6 : Hid (signsN N (8 * bn) most nx fr p made = .error k) := by
                  show _ = _
                  rw [HS1.out, HS3.out, HR2.out]; simp only []; rw [hr]; rfl
                clear hcall hgot hr ht
                go_wp2_with fail
                exact ⟨rfl, .inr ⟨k, HS6.out, rfl, _, HT4.out⟩⟩
            · have HT3 := Lib.hid (HT2.out.trans ht)
              have HS6 : Hid (signsN N (8 * bn) most nx fr p made = .error k) := by
                show _ = _
                rw [HS1.out, HS3.out, hr]; rfl
              clear hlen hgot hr ht
              go_wp2_with fail
              exact ⟨rfl, .inr ⟨k, HS6.out, rfl, _, HT3.out⟩⟩
    · have HT2 := Lib.hid (HT1.out.trans ht)
      have HS3 : Hid (signsN N (8 * bn) most nx fr p made = .error k) := by
        show _ = _
        rw [HS1.out, stepN, hr]; rfl
      clear hcall hgot hr ht
      go_wp2_with fail
      exact ⟨rfl, .inr ⟨k, HS3.out, rfl, _, HT2.out⟩⟩
end Go.Proofs.YtglgchjkonjpiaaGreatDoor
/-! A block of bytes as they are: the walk. -/
namespace Go.Proofs.YtglgchjkonjpiaaGreatDoor
open Go.RowKit Plain
set_option linter.unusedVariables false
theorem stored_e1 {bs : List Int} {N L most p k : Nat} {made : List Int} (h : num N L (8 * ((p + 7) / 8)) 16 = .error k) : storedN bs N L most p made = .error k := by unfold storedN; rw [h]
theorem stored_e2 {bs : List Int} {N L most p k n q : Nat} {made : List Int} (h : num N L (8 * ((p + 7) / 8)) 16 = .ok (n, q)) (h2 : num N L q 16 = .error k) : storedN bs N L most p made = .error k := by unfold storedN; rw [h]; simp only []; rw [h2]
theorem stored_on {bs : List Int} {N L most p n q m r : Nat} {made : List Int} (h : num N L (8 * ((p + 7) / 8)) 16 = .ok (n, q)) (h2 : num N L q 16 = .ok (m, r)) : storedN bs N L most p made =
    if m + n ≠ 65535 then .error 4
      else if most - made.length < min n (bs.length - r / 8) then .error 2
      else if bs.length - r / 8 < n then .error 3
      else .ok (r + 8 * n, made ++ (bs.drop (r / 8)).take n) := by unfold storedN; rw [h]; simp only []; rw [h2]
set_option maxRecDepth 100000 in
set_option maxHeartbeats 8000000 in
theorem stored_any {w0 : World} {Ob : Nat} {ba : Option Addr} {bn bc N most : Nat} {bs : List Int} (HS : SrcB w0 ba bn bc N most bs) (w : World) (p : Nat) (mv : Value) (made : List Int) (H : OutL 8 w0 Ob ba bn bc N most w p mv made) :
    Calls Tryz.prog 86 #[.pointer (some ⟨Ob, 0, none⟩)] w (Mad w0 Ob ba bn bc N most w mv (storedN bs N (8 * bn) most p made)) := by
  have HSS := Lib.hid HS
  have HO := Lib.hid H
  have hfew := HS.few
  have hmost := HS.most
  have hbc := HS.le
  have HBL : Hid (bs.length = bn) := HS.bytes.1
  have hleave := leave_any w p mv made H
  clear HS H
  go_enter Tryz.func86, Tryz.ntmps86
  go_wp2_with fail
  refine hleave.mono ?_
  rintro e w1 ⟨rfl, ho, ht⟩
  have HO1 := Lib.hid ho
  have HT1 := Lib.hid ht
  have hnum := number_any HSS.out w1 _ mv made ho 16 (by omega)
  clear hleave ho ht
  go_wp2_with fail
  refine hnum.mono ?_
  intro e w2 hgot
  obtain ⟨n, q, hr, rfl, ht, ho⟩ | ⟨k, hr, rfl, ht⟩ := hgot.lift
  · have HR1 := Lib.hid hr
    have hn16 : n < 65536 := (num_ok hr).1
    have HQ := Lib.hid (num_ok hr).2.1
    have HO2 := Lib.hid ho
    have HT2 := Lib.hid (HT1.out.trans ht)
    have hnum2 := number_any HSS.out w2 _ mv made ho 16 (by omega)
    clear hnum hgot hr ht ho
    go_wp2_with fail
    refine hnum2.mono ?_
    intro e w3 hgot
    obtain ⟨m, r, hr, rfl, ht, ho⟩ | ⟨k, hr, rfl, ht⟩ := hgot.lift
    · have HSP := Lib.hid (stored_on (bs := bs) (most := most) (made := made) HR1.out hr)
      have hm16 : m < 65536 := (num_ok hr).1
      have HQ2 := Lib.hid (num_ok hr).2.1
      have HO3 := Lib.hid ho
      have HT3 := Lib.hid (HT2.out.trans ht)
      clear hnum2 hgot hr ht ho
      rw [HBL.out] at HSP
      by_cases hmn : m + n = 65535
      · have hmi : ((m : Int) != 65535 - (n : Int)) = false := by simp; omega
        have hmj : (m : Int) = 65535 - (n : Int) := by omega
        obtain ⟨a, hd, l, hh, h1, h2, h3, h4, hmid, hO, hbel, hge, hlm, hra⟩ := HO3.out
        obtain ⟨va, vc, rfl, -, -, -⟩ := hmid.shape
        have hl0 : l = 0 := by have := HQ.out; have := HQ2.out; omega
        subst hl0
        have hd0 : hd = 0 := by rw [h4]; simp [Nat.mod_one]
        subst hd0
        have har : a = r / 8 := by omega
        have hr8 : r = 8 * a := by omega
        rw [← har] at HSP
        have HMID := Lib.hid hmid
        have HH := Lib.hid hh
        have HRA := Lib.hid hra
        have hs0 := hbel.size
        obtain ⟨k, hk⟩ : ∃ k, min n (bn - a) = k := ⟨_, rfl⟩
        rw [hk] at HSP
        have hmn2 : ∀ (ts : Array TypeId) (t : TypeId) (W : World), (Builtin.min_ ts t #[.int .i64 (n : Int), .int .i64 ((bn - a : Nat) : Int)]).run Tryz.prog W = .ok (.int .i64 (k : Int)) W := fun ts t W => by
          have := min2_run (P := Tryz.prog) ts t .i64 .i64 n ((bn - a : Nat) : Int) W
          rwa [show min (n : Int) ((bn - a : Nat) : Int) = (k : Int) by omega] at this
        have hkn : k ≤ n := by omega
        have hkk : k < n → bn - a < n := fun h => by omega
        have hkb : k ≤ bn - a := by omega
        have s1 := fun W => slice_from ba bn bc a h3 hbc W
        have s2 := fun W => slice_to (subA ba bc a) (bn - a) (bc - a) k (by omega) W
        have HPART : Hid (∀ W, Below w0.heap.size w0 W → Bytes W (subA ba bc a) k ((bs.drop a).take k)) := fun W hW => by
          have := (HSS.out.bytes.below hW).part bc a (a + k) (by omega) (by omega) hbc
          rwa [show a + k - a = k by omega] at this
        have HPL : Hid (((bs.drop a).take k).length = k) := by show _ = _; rw [List.length_take, List.length_drop, HBL.out]; omega
        have HBE := Lib.hid hbel
        obtain ⟨c0, c1, c2, c3, c4, c5⟩ := raw_cells HH.out
        clear hh h4 hmid hbel hra hk har h1 h2
        go_wp2_with fail
        go_quiet (fail)
        have HBD : Hid (Below w3.heap.size w3 (w3.drewN nq)) := below_drewN _ _
        clear c0 c1 c2 c3 c4 c5
        generalize w3.drewN nq = wz at *
        have HO4 := Lib.hid (HO3.out.below HBD.out)
        have HH4 : Hid (wz.heap[Ob]? = some (.cells (cellsO ba bn bc a 0 0 (.slice va made.length vc) most) 104 (0, 0))) := (HBD.out.block Ob HO3.out.lt).trans HH.out
        obtain ⟨c0, c1, c2, c3, c4, c5⟩ := raw_cells HH4.out
        have hwrap : IntKind.i64.wrap ((most : Int) - (made.length : Int)) = (most : Int) - (made.length : Int) := IntWalk.i64_in _ (by omega)
        by_cases hlong : most - made.length < k
        · have hli : (most : Int) - (made.length : Int) < (k : Int) := by omega
          have HSP2 : Hid (storedN bs N (8 * bn) most p made = .error 2) := by show _ = _; rw [HSP.out, if_neg (by omega), if_pos hlong]
          go_wp2_with fail
          go_quiet (fail)
          have HBY : Hid (Below wz.heap.size wz (wz.drewN nq)) := below_drewN _ _
          clear c0 c1 c2 c3 c4 c5
          generalize wz.drewN nq = wy at *
          have HTE := Lib.hid (HT3.out.trans ((Turn.of_below HBD.out).trans (Turn.of_below HBY.out)))
          go_wp2_with fail
          refine (with_any 2 wy).mono ?_
          rintro e w2 ⟨rfl, rfl⟩
          dsimp only [thrown]
          go_wp2_with fail
          exact ⟨rfl, .inr ⟨2, HSP2.out, rfl, _, HTE.out⟩⟩
        · have hli : ¬ (most : Int) - (made.length : Int) < (k : Int) := by omega
          go_wp2_with fail
          go_quiet (fail)
          have HBY : Hid (Below wz.heap.size wz (wz.drewN nq)) := below_drewN _ _
          clear c0 c1 c2 c3 c4 c5
          generalize wz.drewN nq = wy at *
          have HTE := Lib.hid (HT3.out.trans ((Turn.of_below HBD.out).trans (Turn.of_below HBY.out)))
          by_cases hshort : k < n
          · have hsi : (k : Int) < (n : Int) := by omega
            have HSP2 : Hid (storedN bs N (8 * bn) most p made = .error 3) := by show _ = _; rw [HSP.out, if_neg (by omega), if_neg hlong, if_pos (hkk hshort)]
            go_wp2_with fail
            refine (with_any 3 wy).mono ?_
            rintro e w2 ⟨rfl, rfl⟩
            dsimp only [thrown]
            go_wp2_with fail
            exact ⟨rfl, .inr ⟨3, HSP2.out, rfl, _, HTE.out⟩⟩
          · have hsi : ¬ (k : Int) < (n : Int) := by omega
            obtain rfl : k = n := by omega
            have HSP2 : Hid (storedN bs N (8 * bn) most p made = .ok (r + 8 * k, made ++ (bs.drop a).take k)) := by show _ = _; rw [HSP.out, if_neg (by omega), if_neg hlong, if_neg (by omega)]
            have HO5 := Lib.hid (HO4.out.below HBY.out)
            have HH5 : Hid (wy.heap[Ob]? = some (.cells (cellsO ba bn bc a 0 0 (.slice va made.length vc) most) 104 (0, 0))) := (HBY.out.block Ob HO4.out.lt).trans HH4.out
            have HM5 : Hid (Mid wy w0.heap.size (.slice va made.length vc) made.length made) := (HMID.out.below HBD.out).below HBY.out
            have hsy : w0.heap.size ≤ wy.heap.size := Nat.le_trans hs0 (Nat.le_trans HBD.out.size HBY.out.size)
            have HB0 : Hid (Below w0.heap.size w0 wy) := by
              obtain ⟨-, -, -, -, -, -, -, -, -, -, hb, -⟩ := HO5.out
              exact hb
            have HYB := Lib.hid (HPART.out wy HB0.out)
            obtain ⟨c0, c1, c2, c3, c4, c5⟩ := raw_cells HH5.out
            have tok : True := trivial
            go_wp2_with (
              have _t := tok
              at_builtin
              refine wpList_append_mid rfl _ _ 22 rfl w0.heap.size (.slice va made.length vc) made.length made rfl HM5.out _ k ((bs.drop a).take k) rfl (src_bytes HYB.out) (by omega) hsy ?_
              intro v5 w5 hm5 hg5 ho5
              have HM6 := Lib.hid hm5
              have HG6 := Lib.hid hg5
              have HO6 := Lib.hid ho5
              clear tok hm5 hg5 ho5
              refine Hid.out ?_)
            refine unhid ?_
            have hlen2 : (made ++ (bs.drop a).take k).length = made.length + k := by rw [List.length_append, HPL.out]
            have hnew := HO5.out.grow (Below.refl _ _) HG6.out (v2 := v5) (m2 := made ++ (bs.drop a).take k) (by rw [hlen2]; exact HM6.out) HO6.out (by rw [hlen2]; omega) (fun y hy => by
              rcases List.mem_append.1 hy with h | h
              · exact HRA.out y h
              · exact mem_of_getD (P := fun x => 0 ≤ x ∧ x ≤ 255) HSS.out.bytes.2.2.1 y (List.mem_of_mem_drop (List.mem_of_mem_take h)))
            obtain ⟨d5, e5, hv5, -⟩ := HM6.out.shape
            have hh5 := hnew.1.trans HH5.out
            obtain ⟨k0, k1, k2, k3, k4, k5⟩ := raw_cells hh5
            have kf4 := raw_free hh5 4
            have kf1 := raw_free hh5 1
            subst hv5
            have hset4 := heap_setCell_same _ Ob 4 _ _ (.slice d5 (made.length + k) e5) hh5
            have hset1 := heap_setCell_same _ Ob 1 _ _ (.int .i64 ((a : Int) + (k : Int))) hset4
            have hput := hnew.2.1.put (lim' := 8) (p' := r + 8 * k) (a + k) 0 0 ((OnlyAt.refl _ _).set 1 (.int .i64 ((a : Int) + (k : Int)))) hset1 (by omega) (by omega) (by omega) (by simp [Nat.mod_one])
            have HNW := Lib.hid hput.1
            have HNT := Lib.hid (HTE.out.trans (hnew.2.2.trans hput.2))
            clear hnew hh5 hset4 hset1 hput c0 c1 c2 c3 c4 c5 hlen2
            go_wp2_with fail
            go_end0
            exact .inl ⟨r + 8 * k, _, _, HSP2.out, rfl, HNT.out, HNW.out⟩
      · have hmi : ((m : Int) != 65535 - (n : Int)) = true := by simp; omega
        have hmj : ¬ (m : Int) = 65535 - (n : Int) := by omega
        have HSP2 : Hid (storedN bs N (8 * bn) most p made = .error 4) := by show _ = _; rw [HSP.out, if_pos hmn]
        go_wp2_with fail
        refine (with_any 4 w3).mono ?_
        rintro e w2 ⟨rfl, rfl⟩
        dsimp only [thrown]
        go_wp2_with fail
        exact ⟨rfl, .inr ⟨4, HSP2.out, rfl, _, HT3.out⟩⟩
    · have HSP := Lib.hid (stored_e2 (bs := bs) (most := most) (made := made) HR1.out hr)
      have HT3 := Lib.hid (HT2.out.trans ht)
      clear hnum2 hgot hr ht
      go_wp2_with fail
      exact ⟨rfl, .inr ⟨k, HSP.out, rfl, _, HT3.out⟩⟩
  · have HSP := Lib.hid (stored_e1 (bs := bs) (most := most) (made := made) hr)
    have HT2 := Lib.hid (HT1.out.trans ht)
    clear hnum hgot hr ht
    go_wp2_with fail
    exact ⟨rfl, .inr ⟨k, HSP.out, rfl, _, HT2.out⟩⟩
end Go.Proofs.YtglgchjkonjpiaaGreatDoor
