/- What a base becomes by a delta: the walk. -/
import Derived.Test.YtkpnmagcmpljoaaStep
namespace Go.Proofs.Ytkpnmagcmpljoaa
open Go.RowKit Plain
set_option linter.unusedVariables false
theorem stepsGo_end (base : List Int) (b f : Nat) (out : List Int) : stepsGo base b (f + 1) [] out = if out.length < b then (4, []) else (0, out) := by
  simp [stepsGo]
theorem stepsGo_err (base : List Int) (b f : Nat) (rest out : List Int) (h : rest ≠ []) (he : (stepOf base rest).1 ≠ 0) : stepsGo base b (f + 1) rest out = ((stepOf base rest).1, []) := by
  simp only [stepsGo]; rw [if_neg h, if_pos he]
theorem stepsGo_big (base : List Int) (b f : Nat) (rest out : List Int) (h : rest ≠ []) (he : (stepOf base rest).1 = 0) (hb : b - out.length < (stepOf base rest).2.1.length) : stepsGo base b (f + 1) rest out = (4, []) := by
  simp only [stepsGo]; rw [if_neg h, if_neg (by omega), if_pos hb]
theorem stepsGo_on (base : List Int) (b f : Nat) (rest out : List Int) (h : rest ≠ []) (he : (stepOf base rest).1 = 0) (hb : ¬ b - out.length < (stepOf base rest).2.1.length) (hf : rest.length < f + 1) :
    stepsGo base b (f + 1) rest out = stepsGo base b ((stepOf base rest).2.2.length + 1) (stepOf base rest).2.2 (out ++ (stepOf base rest).2.1) := by
  have := stepOf_len base rest h
  simp only [stepsGo]; rw [if_neg h, if_neg (by omega), if_neg hb]
  exact stepsGo_same base b f ((stepOf base rest).2.2.length + 1) _ _ (by omega) (by omega)
theorem own_nil (w : World) (base : Nat) : Own w base (.slice none 0 0) 0 [] := ⟨rfl, .inl ⟨rfl, rfl⟩⟩
theorem sizesOf_le (xs : List Int) : (sizesOf xs).2.2.2 ≤ 3 := by
  have h1 := (lebOf_ok xs).2.2.1
  have h2 := (lebOf_ok (xs.drop (lebOf xs).2.1)).2.2.1
  unfold sizesOf
  split
  · exact h1
  · split
    · exact h2
    · simp
theorem sizesOf_most (xs : List Int) : (sizesOf xs).1 ≤ 4611686018427387903 ∧ (sizesOf xs).2.1 ≤ 4611686018427387903 ∧ (sizesOf xs).2.2.1 ≤ xs.length := by
  have h1 := lebOf_ok xs
  have h2 := lebOf_ok (xs.drop (lebOf xs).2.1)
  rw [List.length_drop] at h2
  unfold sizesOf
  split
  · simp
  · split
    · simp
    · exact ⟨h1.1, h2.1, by simp only; omega⟩
set_option maxRecDepth 100000 in
set_option maxHeartbeats 4000000 in
theorem apply_any (a0 : Option Addr) (m0 c0 : Nat) (base : List Int) (a1 : Option Addr) (m1 c1 : Nat) (d : List Int) (most : Int) (w : World) (h0 : m0 ≤ c0) (hn0 : a0 = none → c0 = 0) (hl0 : m0 ≤ 1000000) (HB : Bytes w a0 m0 base)
    (h1 : m1 ≤ c1) (hn1 : a1 = none → c1 = 0) (hl1 : m1 ≤ 1000000) (HD : Bytes w a1 m1 d) (hmost : most ≤ 1000000000) :
    Calls Try.prog 9 #[.slice a0 m0 c0, .slice a1 m1 c1, .int .i64 most] w fun e w' => (∃ v, e = .returned (.tuple #[v, .int .i64 ((applyOf base d most).1 : Int)]) ∧ Own w' w.heap.size v (applyOf base d most).2.length (applyOf base d most).2) ∧ Below w.heap.size w w' := by
  have HBB : Hid (Bytes w a0 m0 base) := HB
  have HDD : Hid (Bytes w a1 m1 d) := HD
  have HN0 : Hid (a0 = none → c0 = 0) := hn0
  have HN1 : Hid (a1 = none → c1 = 0) := hn1
  obtain ⟨sa, sb, sat, se, hs⟩ : ∃ sa sb sat se, sizesOf d = (sa, sb, sat, se) := ⟨_, _, _, _, rfl⟩
  have q1 := sizesOf_most d
  rw [hs] at q1
  dsimp only at q1
  obtain ⟨hsa, hsb, -⟩ := q1
  have HSZ : Hid (sizesOf d = (sa, sb, sat, se)) := hs
  have HAP : Hid (applyOf base d most = if se ≠ 0 then (se, []) else if sa ≠ m0 then (4, []) else if most < (sb : Int) then (2, []) else stepsGo base sb (m1 + 1) (d.drop sat) []) := by
    show _ = _
    unfold applyOf
    rw [hs, ← HB.1, ← HD.1]
  clear HB HD hn0 hn1 hs
  obtain ⟨R, hR⟩ : ∃ R, applyOf base d most = R := ⟨_, rfl⟩
  rw [hR] at HAP ⊢
  clear hR
  go_enter Try.func9, Try.ntmps9
  go_wp2_with fail
  refine (sizes_any a1 m1 c1 d w h1 HDD.out).mono ?_
  rw [HSZ.out]
  rintro e w1 ⟨rfl, hb1⟩
  have HW1 : Hid (Below w.heap.size w w1) := hb1
  clear hb1
  by_cases hse : se = 0
  · subst hse
    by_cases hsm : sa = m0
    · have hsmi : (sa : Int) = (m0 : Int) := by omega
      by_cases hbm : most < (sb : Int)
      · go_wp2_with fail
        go_ret2
        rw [HAP.out, if_neg (by omega), if_neg (by omega), if_pos hbm]
        exact ⟨⟨_, rfl, own_nil _ _⟩, HW1.out⟩
      · have hst := steps_any a1 m1 c1 d w w1 HW1.out h1 HN1.out HDD.out (by rw [HSZ.out])
        rw [HSZ.out] at hst
        have hsb9 : sb ≤ 1000000000 := by omega
        have HR : Hid (R = stepsGo base sb (m1 + 1) (d.drop sat) []) := by show _ = _; rw [HAP.out, if_neg (by omega), if_neg (by omega), if_neg hbm]
        clear HAP
        go_wp2_with fail
        refine hst.mono ?_
        rintro e w2 ⟨⟨ra, rn, rc, rfl, g1, g2, g3, g4⟩, hb2⟩
        have HW2 : Hid (Below w.heap.size w w2) := HW1.out.trans (hb2.mono HW1.out.size)
        have HST : Hid ((ra = none → rc = 0) ∧ Bytes w ra rn (d.drop sat)) := ⟨g3, g4⟩
        clear hst g3 g4 hb2
        go_wp2_with fail
        go_loopw [11, 12] (fun o r wr => ∃ (out rest : List Int) (ao : Option Addr) (no co : Nat) (ar : Option Addr) (mr cr : Nat), o = .slice ao no co ∧ r = .slice ar mr cr ∧ no ≤ sb ∧ mr ≤ cr ∧ mr ≤ m1 ∧ Own wr w.heap.size (.slice ao no co) no out ∧ ((ar = none → cr = 0) ∧ Bytes w ar mr rest) ∧ R = stepsGo base sb (mr + 1) rest out ∧ Below w.heap.size w wr) (fun _ r _ => sizeV r)
        case atStart => exact ⟨[], d.drop sat, none, 0, 0, ra, rn, rc, rfl, rfl, by omega, g1, g2, own_nil _ _, HST.out, by rw [HR.out]; exact stepsGo_same _ _ _ _ _ _ (by rw [HST.out.2.1]; omega) (by rw [HST.out.2.1]; omega), HW2.out⟩
        case round =>
          obtain ⟨out, rest, ao, no, co, ar, mr, cr, rfl, rfl, hno, hmc, hmm, hown, hby, hgo, hbel⟩ := hrel
          have HO : Hid (Own wr w.heap.size (.slice ao no co) no out) := hown
          have HOL : Hid (out.length = no) := by have := hown.1; rw [List.length_map] at this; show _ = _; omega
          have HBY : Hid ((ar = none → cr = 0) ∧ Bytes w ar mr rest) := hby
          have HGO : Hid (R = stepsGo base sb (mr + 1) rest out) := hgo
          have HBE : Hid (Below w.heap.size w wr) := hbel
          clear hown hby hgo hbel HST HR HW2
          by_cases hmr : 0 < mr
          · have hmi : (0 : Int) < mr := by omega
            have HNE : Hid (rest ≠ []) := fun e => by have := HBY.out.2.1; rw [e] at this; simp at this; omega
            have hstep := step_any a0 m0 c0 base ar mr cr rest w wr HBE.out h0 HN0.out hl0 HBB.out hmr hmc (by omega) HBY.out.2
            have HSL : Hid ((stepOf base rest).2.2.length < mr) := by have := stepOf_len base rest HNE.out; rw [HBY.out.2.1] at this; exact this
            have HERR : Hid ((stepOf base rest).1 ≠ 0 → R = ((stepOf base rest).1, [])) := fun h => by rw [HGO.out, stepsGo_err _ _ _ _ _ HNE.out h]
            have HBIG : Hid ((stepOf base rest).1 = 0 → sb - no < (stepOf base rest).2.1.length → R = (4, [])) := fun h h' => by rw [HGO.out, stepsGo_big _ _ _ _ _ HNE.out h (by rw [HOL.out]; exact h')]
            have HON : Hid ((stepOf base rest).1 = 0 → ¬ sb - no < (stepOf base rest).2.1.length → R = stepsGo base sb ((stepOf base rest).2.2.length + 1) (stepOf base rest).2.2 (out ++ (stepOf base rest).2.1)) := fun h h' => by rw [HGO.out, stepsGo_on _ _ _ _ _ HNE.out h (by rw [HOL.out]; exact h') (by rw [HBY.out.2.1]; omega)]
            obtain ⟨te, tp, tr, ht⟩ : ∃ te tp tr, stepOf base rest = (te, tp, tr) := ⟨_, _, _, rfl⟩
            rw [ht] at hstep HSL HERR HBIG HON
            clear ht HGO
            go_wp2_with fail
            refine hstep.mono ?_
            rintro e w3 ⟨hsr, hb3⟩
            have HW3 : Hid (Below w.heap.size w w3) := HBE.out.trans (hb3.mono HBE.out.size)
            have HO3 : Hid (Own w3 w.heap.size (.slice ao no co) no out) := HO.out.below hb3
            clear hstep hb3
            rcases hsr with ⟨j1, rfl⟩ | ⟨j1, pa, pn, pc, qa, qn, qc, rfl, j2, j3, j4, j5, j6, j7⟩
            · have hti : ¬ (te : Int) = 0 := by
                have : te ≠ 0 := j1
                omega
              have htb : ((te : Int) == 0) = false := by simpa using hti
              have HX : Hid (R = (te, [])) := HERR.out j1
              clear j1 HERR HBIG HON
              go_wp2_with fail
              go_ret2
              rw [HX.out]
              exact ⟨⟨_, rfl, own_nil _ _⟩, HW3.out⟩
            · have hte : te = 0 := j1
              subst hte
              have HPB : Hid ((pa = none → pc = 0) ∧ Bytes w pa pn tp) := ⟨j3, j4⟩
              have HQB : Hid ((qa = none → qc = 0) ∧ Bytes w qa qn tr) := ⟨j6, j7⟩
              have HPL : Hid (tp.length = pn) := j4.1
              have HQL : Hid (tr.length = qn) := j7.1
              have hqn : qn < mr := by have := HSL.out; have h2 := HQL.out; have h3 : tr.length < mr := this; omega
              clear j1 j3 j4 j6 j7 HERR HSL
              by_cases hbig : sb - no < pn
              · have hbi : (sb : Int) - no < pn := by omega
                have HX : Hid (R = (4, [])) := HBIG.out rfl (by show _ < tp.length; rw [HPL.out]; exact hbig)
                go_wp2_with fail
                go_ret2
                rw [HX.out]
                exact ⟨⟨_, rfl, own_nil _ _⟩, HW3.out⟩
              · have hbi : ¬ (sb : Int) - no < pn := by omega
                have HX : Hid (R = stepsGo base sb (qn + 1) tr (out ++ tp)) := by
                  have := HON.out rfl (by show ¬ _ < tp.length; rw [HPL.out]; exact hbig)
                  have h3 : R = stepsGo base sb (tr.length + 1) tr (out ++ tp) := this
                  rwa [HQL.out] at h3
                clear HON HBIG
                go_wp2_with (
                  at_builtin
                  refine wpList_append_bytes rfl _ _ rfl w.heap.size _ no out rfl HO3.out pa pn pc tp rfl (HPB.out.2.below HW3.out) HPB.out.1 (by omega) HW3.out.size ?_
                  intro v' w4 hown4 hg4
                  have HW4 : Hid (Below w.heap.size w w4) := HW3.out.trans (HO3.out.kept HW3.out.size hg4)
                  have HO4 : Hid (Own w4 w.heap.size v' (no + pn) (out ++ tp)) := hown4
                  obtain ⟨a4, c4, e4, -, -, -⟩ := hown4.shape
                  subst e4
                  clear hown4 hg4)
                exact ⟨⟨out ++ tp, tr, a4, no + pn, c4, qa, qn, qc, rfl, rfl, by omega, j5, by omega, HO4.out, HQB.out, HX.out, HW4.out⟩, hqn⟩
          · obtain rfl : mr = 0 := by omega
            have HNE : Hid (rest = []) := List.eq_nil_of_length_eq_zero HBY.out.2.1
            have HX : Hid (R = if no < sb then (4, []) else (0, out)) := by show _ = _; rw [HGO.out, HNE.out, stepsGo_end, HOL.out]
            by_cases hlt : no < sb
            · have hli : (no : Int) < sb := by omega
              go_wp2_with fail
              go_ret2
              rw [HX.out, if_pos hlt]
              exact ⟨⟨_, rfl, own_nil _ _⟩, HBE.out⟩
            · have hli : ¬ (no : Int) < sb := by omega
              go_wp2_with fail
              go_ret2
              rw [HX.out, if_neg hlt]
              exact ⟨⟨_, rfl, by show Own _ _ _ out.length out; rw [HOL.out]; exact HO.out⟩, HBE.out⟩
    · have hsmi : ¬ (sa : Int) = (m0 : Int) := by omega
      go_wp2_with fail
      go_ret2
      rw [HAP.out, if_neg (by omega), if_pos hsm]
      exact ⟨⟨_, rfl, own_nil _ _⟩, HW1.out⟩
  · have hsi : ¬ (se : Int) = 0 := by omega
    go_wp2_with fail
    go_ret2
    rw [HAP.out, if_pos hse]
    exact ⟨⟨_, rfl, own_nil _ _⟩, HW1.out⟩
end Go.Proofs.Ytkpnmagcmpljoaa
