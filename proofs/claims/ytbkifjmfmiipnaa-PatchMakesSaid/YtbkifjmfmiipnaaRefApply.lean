/- The document's answer to what a base becomes: the walk. -/
import Derived.Test.YtbkifjmfmiipnaaNumber
import Derived.Test.YtbkifjmfmiipnaaEndsRun
import Derived.Deep.QuietTactic
namespace Go.Proofs.Ytbkifjmfmiipnaa
open Go.RowKit Plain
set_option linter.unusedVariables false
def hkP (h : HkM) : Hk := ⟨h.fr.toNat, h.to.toNat, h.ys⟩
def RefFine (w : World) (ms : List HkM) : Prop := ∀ h ∈ ms, 0 ≤ h.fr ∧ 0 ≤ h.to ∧ h.ys.length ≤ h.c ∧ (h.a = none → h.c = 0) ∧ Bytes w h.a h.ys.length h.ys
theorem behind_mem (base : List Int) : ∀ (l : List Hk), (∀ x ∈ base, 0 ≤ x ∧ x ≤ 255) → (∀ h ∈ l, ∀ x ∈ h.ys, 0 ≤ x ∧ x ≤ 255) → ∀ x ∈ behind base l, 0 ≤ x ∧ x ≤ 255
  | [], hb, _, x, hx => hb x hx
  | k :: t, hb, hl, x, hx => by
    have ih := behind_mem base t hb (fun h hh => hl h (by simp [hh]))
    have e : behind base (k :: t) = (behind base t).take k.fr ++ k.ys ++ (behind base t).drop k.to := rfl
    rw [e] at hx
    simp only [List.mem_append] at hx
    rcases hx with (hx | hx) | hx
    · exact ih x (List.mem_of_mem_take hx)
    · exact hl k (by simp) x hx
    · exact ih x (List.mem_of_mem_drop hx)
theorem behind_range {w : World} {a : Option Addr} {m : Nat} (base : List Int) (HB : Bytes w a m base) (hs : List Hk) (h : ∀ h ∈ hs, ∀ x ∈ h.ys, 0 ≤ x ∧ x ≤ 255) (i : Nat) : ∀ x ∈ behind base (hs.drop i), 0 ≤ x ∧ x ≤ 255 :=
  behind_mem base _ (getD_bytes4 HB) (fun k hk => h k (List.mem_of_mem_drop hk))
theorem OwnH.cells {w : World} {base n c : Nat} {a : Option Addr} {l : List HkM} (h : OwnH w base (.slice a n c) n l) (j : Nat) (hk : HkM) (hj : l[j]? = some hk) :
    ∃ g, a = some ⟨g, 0, none⟩ ∧ g < w.heap.size ∧ n ≤ c ∧ w.cell? ⟨g, j * 3, none⟩ = some (.int .i64 hk.fr) ∧ w.cell? ⟨g, j * 3 + 1, none⟩ = some (.int .i64 hk.to) ∧ w.cell? ⟨g, j * 3 + 2, none⟩ = some (.slice hk.a hk.ys.length hk.c) := by
  have hj' : j < l.length := (List.getElem?_eq_some_iff.1 hj).1
  have hl : l.length = n := by
    have := h.1
    rw [hksFlat_length] at this
    omega
  obtain ⟨h1, ⟨h2, rfl⟩ | ⟨g, cap, cur, h2, h3, h4, h5, h6, h7, h8⟩⟩ := h
  · omega
  · simp only [Value.slice.injEq, true_and] at h2
    obtain ⟨rfl, rfl⟩ := h2
    have hc : ∀ i, i < 3 → w.cell? ⟨g, j * 3 + i, none⟩ = (hkCells hk)[i]? := by
      intro i hi
      rw [cell_of_row w g _ cur _ h4, ← hksFlat_get l j i hk hj hi, ← h8, List.getElem?_take_of_lt (by omega), Array.getElem?_toList]
    exact ⟨g, rfl, (Array.getElem?_eq_some_iff.1 h4).1, h5, hc 0 (by omega), hc 1 (by omega), hc 2 (by omega)⟩
set_option maxRecDepth 100000 in
set_option maxHeartbeats 8000000 in
theorem ref_apply (a0 : Option Addr) (m0 c0 : Nat) (base : List Int) (a1 : Option Addr) (m1 c1 : Nat) (xs : List Int) (most : Int) (w : World) (h0 : m0 ≤ c0) (hn0 : a0 = none → c0 = 0) (hl0 : m0 ≤ 1000000) (HB : Bytes w a0 m0 base)
    (h1 : m1 ≤ c1) (hn1 : a1 = none → c1 = 0) (hl1 : m1 ≤ 1000000) (HP : Bytes w a1 m1 xs) :
    Calls Try.prog 11 #[.slice a0 m0 c0, .slice a1 m1 c1, .int .i64 most] w fun e w' => (∃ v, e = .returned (.tuple #[v, .int .i64 ((applyOf base xs most).1 : Int)]) ∧ Own w' w.heap.size v (applyOf base xs most).2.length (applyOf base xs most).2) ∧ Below w.heap.size w w' := by
  have HBB : Hid (Bytes w a0 m0 base) := HB
  have HPB : Hid (Bytes w a1 m1 xs) := HP
  have HN0 : Hid (a0 = none → c0 = 0) := hn0
  have HN1 : Hid (a1 = none → c1 = 0) := hn1
  have HXL : Hid (xs.length = m1) := HP.1
  have HBL : Hid (base.length = m0) := HB.1
  clear HB HP hn0 hn1
  go_enter Try.func11, Try.ntmps11
  go_wp2_with fail
  go_loopw [8, 9, 10] (fun v lv i wr => ∃ (p last n c : Nat) (a : Option Addr) (ms : List HkM), i = .int .i64 (p : Int) ∧ lv = .int .i64 (last : Int) ∧ v = .slice a n c ∧ OwnH wr w.heap.size (.slice a n c) n ms ∧ ReadUp base xs (ms.map hkP) p last ∧ RefFine w ms ∧ Below w.heap.size w wr) (fun _ _ i _ => m1 - (intOf i).toNat)
  case atStart => exact ⟨0, 0, 0, 0, none, [], rfl, rfl, rfl, ⟨rfl, .inl ⟨rfl, rfl⟩⟩, read_start base xs, fun h hh => by simp at hh, Below.refl _ _⟩
  case round =>
    obtain ⟨p, last, n, c, a, ms, rfl, rfl, rfl, hown, hread, hfine, hbel⟩ := hrel
    have HO : Hid (OwnH wr w.heap.size (.slice a n c) n ms) := hown
    have HR : Hid (ReadUp base xs (ms.map hkP) p last) := hread
    have HF : Hid (RefFine w ms) := hfine
    have HE : Hid (Below w.heap.size w wr) := hbel
    have HSZ : Hid (w.heap.size ≤ wr.heap.size) := hbel.size
    have hp : p ≤ m1 := by have := hread.1; have := HXL.out; omega
    have hnl : ms.length = n := by
      have := hown.1
      rw [hksFlat_length] at this
      omega
    have hn12 : 12 * n ≤ p := by have := hread.2.2.2.1; rw [List.length_map] at this; omega
    clear hown hread hfine hbel
    by_cases hlt : p < m1
    · have i1 : (p : Int) < m1 := by omega
      by_cases h12 : m1 - p < 12
      · have i2 : (m1 : Int) - p < 12 := by omega
        have hap : applyOf base xs most = (3, []) := by
          unfold applyOf
          rw [read_end HR.out (by rw [HXL.out]; exact hlt) (.inl (by rw [HXL.out]; exact h12))]
          simp
        go_wp2_with fail
        go_ret2
        rw [hap]
        exact ⟨⟨_, rfl, ⟨rfl, .inl ⟨rfl, rfl⟩⟩⟩, HE.out⟩
      · have i2 : ¬ (m1 : Int) - p < 12 := by omega
        have HC0 : Hid (∀ W, Below w.heap.size w W → Calls Try.prog 18 #[.slice a1 m1 c1, .int .i64 (p : Int)] W fun e w' => e = .returned (.int .i64 (num (sub xs p 4) : Int)) ∧ w' = W.drew) := fun W hW => number_any a1 m1 c1 xs p W h1 (by omega) hl1 (HPB.out.below hW)
        have HC4 : Hid (∀ W, Below w.heap.size w W → Calls Try.prog 18 #[.slice a1 m1 c1, .int .i64 ((p : Int) + 4)] W fun e w' => e = .returned (.int .i64 (num (sub xs (p + 4) 4) : Int)) ∧ w' = W.drew) := fun W hW => number_any a1 m1 c1 xs (p + 4) W h1 (by omega) hl1 (HPB.out.below hW)
        have HC8 : Hid (∀ W, Below w.heap.size w W → Calls Try.prog 18 #[.slice a1 m1 c1, .int .i64 ((p : Int) + 8)] W fun e w' => e = .returned (.int .i64 (num (sub xs (p + 8) 4) : Int)) ∧ w' = W.drew) := fun W hW => number_any a1 m1 c1 xs (p + 8) W h1 (by omega) hl1 (HPB.out.below hW)
        have hf4 := num_lt4 w a1 m1 xs HPB.out p (by omega)
        have ht4 := num_lt4 w a1 m1 xs HPB.out (p + 4) (by omega)
        have hn4 := num_lt4 w a1 m1 xs HPB.out (p + 8) (by omega)
        have HEND : Hid (m1 - p - 12 < num (sub xs (p + 8) 4) → applyGo base (hunksOf xs) 0 [] = (3, [])) := fun h => read_end HR.out (by rw [HXL.out]; exact hlt) (.inr (by rw [HXL.out]; exact h))
        have HFORM : Hid (num (sub xs (p + 8) 4) ≤ m1 - p - 12 → (num (sub xs (p + 4) 4) < num (sub xs p 4) ∨ m0 < num (sub xs (p + 4) 4) ∨ num (sub xs p 4) < last) → applyGo base (hunksOf xs) 0 [] = (4, [])) := fun h h' => read_form HR.out (by rw [HXL.out]; omega) (by rw [HXL.out]; exact h) (by rw [HBL.out]; exact h')
        have HNEXT : Hid (num (sub xs (p + 8) 4) ≤ m1 - p - 12 → num (sub xs p 4) ≤ num (sub xs (p + 4) 4) → num (sub xs (p + 4) 4) ≤ m0 → last ≤ num (sub xs p 4) → ReadUp base xs (ms.map hkP ++ [⟨num (sub xs p 4), num (sub xs (p + 4) 4), sub xs (p + 12) (num (sub xs (p + 8) 4))⟩]) (p + 12 + num (sub xs (p + 8) 4)) (num (sub xs (p + 4) 4))) := fun h g1 g2 g3 => read_next HR.out (by rw [HXL.out]; omega) (by rw [HXL.out]; exact h) g1 (by rw [HBL.out]; exact g2) g3
        generalize num (sub xs p 4) = nf at *
        generalize num (sub xs (p + 4) 4) = nt at *
        generalize num (sub xs (p + 8) 4) = nn at *
        have k4 : IntKind.i64.wrap ((p : Int) + 4) = (p : Int) + 4 := by rw [IntKind.wrap_i64]; omega
        have k8 : IntKind.i64.wrap ((p : Int) + 8) = (p : Int) + 8 := by rw [IntKind.wrap_i64]; omega
        go_wp2_with fail
        refine (HC0.out wr HE.out).mono ?_
        rintro e w2 ⟨rfl, rfl⟩
        go_wp2_with fail
        refine (HC4.out _ HE.out.drew).mono ?_
        rintro e w2 ⟨rfl, rfl⟩
        go_wp2_with fail
        refine (HC8.out _ HE.out.drew.drew).mono ?_
        rintro e w2 ⟨rfl, rfl⟩
        have HO3 : Hid (OwnH wr.drew.drew.drew w.heap.size (.slice a n c) n ms) := HO.out.drew.drew.drew
        have HE3 : Hid (Below w.heap.size w wr.drew.drew.drew) := HE.out.drew.drew.drew
        clear HC0 HC4 HC8 HO HE k4 k8 HSZ HR
        generalize wr.drew.drew.drew = w3 at *
        have HSZ : Hid (w.heap.size ≤ w3.heap.size) := HE3.out.size
        by_cases hn : m1 - p - 12 < nn
        · have i3 : (m1 : Int) - p - 12 < nn := by omega
          have HAP : Hid (applyOf base xs most = (3, [])) := by
            show _ = _
            unfold applyOf
            rw [HEND.out hn]
            simp
          go_wp2_with fail
          go_ret2
          rw [HAP.out]
          exact ⟨⟨_, rfl, ⟨rfl, .inl ⟨rfl, rfl⟩⟩⟩, HE3.out⟩
        · have i3 : ¬ (m1 : Int) - p - 12 < nn := by omega
          by_cases hgood : nf ≤ nt ∧ nt ≤ m0 ∧ last ≤ nf
          · obtain ⟨g1, g2, g3⟩ := hgood
            have j1 : ¬ (nt : Int) < nf := by omega
            have j2 : ¬ (m0 : Int) < nt := by omega
            have j3 : ¬ (nf : Int) < last := by omega
            have hnx := HNEXT.out (by omega) g1 g2 g3
            have HNX : Hid (ReadUp base xs (ms.map hkP ++ [⟨nf, nt, sub xs (p + 12) nn⟩]) (p + 12 + nn) nt) := hnx
            have HYB : Hid (Bytes w (subA a1 c1 (p + 12)) nn (sub xs (p + 12) nn)) := by
              have := HPB.out.part c1 (p + 12) (p + 12 + nn) (by omega) (by omega) h1
              rw [show p + 12 + nn - (p + 12) = nn by omega] at this
              exact this
            have hyl : (sub xs (p + 12) nn).length = nn := HYB.out.1
            have HYN : Hid (subA a1 c1 (p + 12) = none → c1 - (p + 12) = 0) := subA_nil HN1.out
            have s12 : ∀ W, (Instr.sliceAt 22 (.slice a1 m1 c1) (some (.int .i64 ((p : Int) + 12))) (some (.int .i64 ((p : Int) + 12 + (nn : Int)))) none).run Try.prog W = .ok (.slice (subA a1 c1 (p + 12)) nn (c1 - (p + 12))) W := fun W => by
              have := slice_sub a1 m1 c1 (p + 12) (p + 12 + nn) (by omega) (by omega) W
              rw [show p + 12 + nn - (p + 12) = nn by omega] at this
              exact this
            generalize sub xs (p + 12) nn = ys at *
            generalize subA a1 c1 (p + 12) = ya at *
            obtain ⟨yc, hyc⟩ : ∃ yc, c1 - (p + 12) = yc := ⟨_, rfl⟩
            rw [hyc] at HYN s12
            have hnyc : nn ≤ yc := by omega
            have kk1 : IntKind.i64.wrap ((p : Int) + 12) = (p : Int) + 12 := by rw [IntKind.wrap_i64]; omega
            have kk2 : IntKind.i64.wrap ((p : Int) + 12 + (nn : Int)) = (p : Int) + 12 + (nn : Int) := by rw [IntKind.wrap_i64]; omega
            have tok : True := trivial
            go_wp2_with (
              have _t := tok
              at_builtin
              refine wpList_append_hunk rfl _ _ rfl w.heap.size (.slice a n c) n ms (nf : Int) (nt : Int) ya nn yc ys hyl rfl HO3.out rfl (by omega) HSZ.out ?_
              intro v9 w7 ho9 hoth9 hbe9 hsh9
              obtain ⟨a9, c9, hv9⟩ := hsh9
              subst hv9
              clear tok
              have HO9 : Hid (OwnH w7 w.heap.size (.slice a9 (n + 1) c9) (n + 1) (ms ++ [⟨nf, nt, ya, yc, ys⟩])) := ho9
              have HE9 : Hid (Below w.heap.size w w7) := HE3.out.trans hbe9
              clear ho9 hoth9 hbe9)
            refine ⟨⟨p + 12 + nn, nt, n + 1, c9, a9, ms ++ [⟨nf, nt, ya, yc, ys⟩], by go_num, rfl, rfl, HO9.out, ?_, ?_, HE9.out⟩, by simp [intOf]; omega⟩
            · have e : (ms ++ [(⟨(nf : Int), (nt : Int), ya, yc, ys⟩ : HkM)]).map hkP = ms.map hkP ++ [⟨nf, nt, ys⟩] := by simp [hkP]
              rw [e]
              exact HNX.out
            · intro h hh
              rcases List.mem_append.1 hh with h2 | h2
              · exact HF.out h h2
              · rw [List.mem_singleton.1 h2]
                exact ⟨by show (0 : Int) ≤ nf; omega, by show (0 : Int) ≤ nt; omega, by show ys.length ≤ yc; omega, HYN.out, by show Bytes w ya ys.length ys; rw [hyl]; exact HYB.out⟩
          · have HAP : Hid (applyOf base xs most = (4, [])) := by
              show _ = _
              unfold applyOf
              rw [HFORM.out (by omega) (by omega)]
              simp
            have hbad : (nt : Int) < nf ∨ (¬ (nt : Int) < nf ∧ (m0 : Int) < nt) ∨ (¬ (nt : Int) < nf ∧ ¬ (m0 : Int) < nt ∧ (nf : Int) < last) := by omega
            clear hgood
            rcases hbad with j1 | ⟨j1, j2⟩ | ⟨j1, j2, j3⟩
            all_goals
              go_wp2_with fail
              go_ret2
              rw [HAP.out]
              exact ⟨⟨_, rfl, ⟨rfl, .inl ⟨rfl, rfl⟩⟩⟩, HE3.out⟩
    · have i1 : ¬ (p : Int) < m1 := by omega
      have HDONE : Hid (applyGo base (hunksOf xs) 0 [] = (0, behind base (ms.map hkP))) := read_done HR.out (by rw [HXL.out]; omega)
      generalize wr = wa at *
      clear wr
      have tok : True := trivial
      go_wp2_with (
        have _t := tok
        at_builtin
        refine wpList_append_bytes rfl _ _ rfl wa.heap.size _ 0 [] rfl (Own.empty wa) a0 m0 c0 base rfl ((HBB.out.below HE.out).below ((Below.refl _ _).alloc (Nat.le_refl _) _)) HN0.out (by omega) (by simp) ?_
        intro u1 w1 hu1 hg1
        clear tok
        rw [Nat.zero_add, List.nil_append] at hu1
        have HB1 : Hid (Below wa.heap.size wa w1) := ((Below.refl _ _).alloc (Nat.le_refl _) _).trans ((Own.empty wa).kept (by simp) hg1)
        have HU1 : Hid (Own w1 wa.heap.size u1 m0 base) := hu1
        obtain ⟨ua, uc, eu1, -, -, -⟩ := hu1.shape
        subst eu1
        clear hu1 hg1)
      obtain ⟨hs, hhs⟩ : ∃ hs, ms.map hkP = hs := ⟨_, rfl⟩
      have HHS : Hid (ms.map hkP = hs) := hhs
      have HRNG : Hid (∀ h ∈ hs, ∀ x ∈ h.ys, 0 ≤ x ∧ x ≤ 255) := by
        rw [← hhs]
        intro h hh x hx
        obtain ⟨k, hk, rfl⟩ := List.mem_map.1 hh
        exact getD_bytes4 (HF.out k hk).2.2.2.2 x hx
      rw [hhs] at HDONE HR
      clear hhs
      have hhl : hs.length = n := by rw [← HHS.out, List.length_map]; exact hnl
      go_loopw [14, 15] (fun v i wr => ∃ (k N c2 : Nat) (a2 : Option Addr), k ≤ n ∧ i = .int .i64 ((k : Int) - 1) ∧ v = .slice a2 N c2 ∧ Own wr wa.heap.size (.slice a2 N c2) N (behind base (hs.drop k)) ∧ Below wa.heap.size wa wr) (fun _ i _ => (intOf i + 1).toNat)
      case atStart => exact ⟨n, m0, uc, ua, by omega, by go_num, rfl, by rw [List.drop_of_length_le (by omega)]; exact HU1.out, HB1.out⟩
      case round =>
        obtain ⟨k, N, c2, a2, hk, rfl, rfl, hown2, hb2⟩ := hrel
        have HO2 : Hid (Own wr wa.heap.size (.slice a2 N c2) N (behind base (hs.drop k))) := hown2
        have HB2 : Hid (Below wa.heap.size wa wr) := hb2
        have HNL : Hid ((behind base (hs.drop k)).length = N) := by
          have := hown2.1
          rw [List.length_map] at this
          show _ = _
          omega
        clear hown2 hb2
        by_cases hk0 : k = 0
        · subst hk0
          have HD2 : Hid (applyGo base (hunksOf xs) 0 [] = (0, behind base hs)) := HDONE.out
          have HO3 : Hid (Own wr wa.heap.size (.slice a2 N c2) N (behind base hs)) := HO2.out
          have HNL3 : Hid ((behind base hs).length = N) := HNL.out
          have HEE : Hid (Below w.heap.size w wr) := HE.out.trans (HB2.out.mono HSZ.out)
          by_cases hm : most < (N : Int)
          · have HAP : Hid (applyOf base xs most = (2, [])) := by
              show _ = _
              unfold applyOf
              rw [HD2.out]
              simp only [if_true]
              rw [HNL3.out, if_pos hm]
            go_wp2_with fail
            go_ret2
            rw [HAP.out]
            exact ⟨⟨_, rfl, ⟨rfl, .inl ⟨rfl, rfl⟩⟩⟩, HEE.out⟩
          · have HAP : Hid (applyOf base xs most = (0, behind base hs)) := by
              show _ = _
              unfold applyOf
              rw [HD2.out]
              simp only [if_true]
              rw [HNL3.out, if_neg hm]
            go_wp2_with fail
            go_ret2
            rw [HAP.out]
            refine ⟨⟨_, rfl, ?_⟩, HEE.out⟩
            show Own wr w.heap.size _ (behind base hs).length (behind base hs)
            rw [HNL3.out]
            exact HO3.out.lower HSZ.out
        · obtain ⟨j, rfl⟩ : ∃ j, k = j + 1 := ⟨k - 1, by omega⟩
          rw [show ((j + 1 : Nat) : Int) - 1 = (j : Int) by omega]
          obtain ⟨h, hh⟩ : ∃ h, ms[j]? = some h := ⟨_, List.getElem?_eq_getElem (by omega)⟩
          have hh2 : hs[j]? = some (hkP h) := by rw [← HHS.out, List.getElem?_map, hh]; rfl
          have hst := step_ok base hs last j (hkP h) HR.out.2.2.1 hh2
          have hbd := behind_drop base hs j (hkP h) hh2
          have hyx : h.ys.length ≤ m1 := by
            have := HR.out.2.2.2.2 (hkP h) (List.mem_of_getElem? hh2)
            rw [HXL.out] at this
            exact this
          obtain ⟨f1, f2, f3, f4, f5⟩ := HF.out h (List.mem_of_getElem? hh)
          obtain ⟨g, rfl, hg1, hnc, q0, q1, q2⟩ := HO.out.cells j h hh
          rw [HNL.out] at hst
          obtain ⟨chf, chc⟩ := chain_drop base.length hs 0 last HR.out.2.2.1 (j + 1)
          have hNb : N ≤ 200000000000 := by
            have h5 := behind_len base m1 (hs.drop (j + 1)) (fun x hx => by
              have := HR.out.2.2.2.2 x (List.mem_of_mem_drop hx)
              rw [HXL.out] at this
              exact this) last chf chc
            rw [HNL.out, HBL.out, List.length_drop, hhl] at h5
            have h6 : m1 * (n - (j + 1)) ≤ 1000000 * 83334 := Nat.mul_le_mul hl1 (by omega)
            omega
          obtain ⟨fr, to, ya, yc, ys⟩ := h
          dsimp only at f1 f2 f3 f4 f5 q0 q1 q2 hyx
          obtain ⟨f, rfl⟩ := Int.eq_ofNat_of_zero_le f1
          obtain ⟨t, rfl⟩ := Int.eq_ofNat_of_zero_le f2
          have hft : f ≤ t := hst.1
          have htN : t ≤ N := hst.2
          have HBD : Hid (behind base (hs.drop j) = (behind base (hs.drop (j + 1))).take f ++ ys ++ (behind base (hs.drop (j + 1))).drop t) := hbd
          have HOB : Hid (Bytes wr a2 N (behind base (hs.drop (j + 1)))) := HO2.out.bytes (range_of_mem (behind_range base HBB.out hs HRNG.out (j + 1)))
          have HOC : Hid (a2 = none → c2 = 0) := nil_of_own HO2.out
          have hNc : N ≤ c2 := own_cap HO2.out
          have HEW : Hid (Below w.heap.size w wr) := HE.out.trans (HB2.out.mono HSZ.out)
          have HYB : Hid (Bytes wr ya ys.length ys) := f5.below HEW.out
          have HYN : Hid (ya = none → yc = 0) := f4
          obtain ⟨m, hm⟩ : ∃ m, ys.length = m := ⟨_, rfl⟩
          rw [hm] at HYB hyx f3 q2
          clear hst hbd hh hh2 chf chc f1 f2 f4 f5 hm HDONE
          generalize behind base (hs.drop (j + 1)) = o at *
          have HOF : Hid (Bytes wr a2 f (o.take f)) := by
            have := HOB.out.first f
            rwa [show min N f = f by omega] at this
          have HOT : Hid (Bytes wr (subA a2 c2 t) (N - t) (o.drop t)) := by
            have := HOB.out.part c2 t N htN (Nat.le_refl _) hNc
            rw [List.take_of_length_le (by rw [List.length_drop, HNL.out]; exact Nat.le_refl _)] at this
            exact this
          have HOS : Hid (subA a2 c2 t = none → c2 - t = 0) := subA_nil HOC.out
          have sF : ∀ W, (Instr.sliceAt 22 (.slice a2 N c2) none (some (.int .i64 (f : Int))) none).run Try.prog W = .ok (.slice a2 f c2) W := fun W => slice_to a2 N c2 f (by omega) W
          have sT : ∀ W, (Instr.sliceAt 22 (.slice a2 N c2) (some (.int .i64 (t : Int))) none none).run Try.prog W = .ok (.slice (subA a2 c2 t) (N - t) (c2 - t)) W := fun W => slice_from a2 N c2 t htN hNc W
          obtain ⟨r, hr⟩ : ∃ r, N - t = r := ⟨_, rfl⟩
          have hrN : r ≤ N := by omega
          rw [hr] at HOT sT
          generalize subA a2 c2 t = ta at *
          generalize c2 - t = tc at *
          have HCL : Hid (∀ W, Below wr.heap.size wr W → W.cell? ⟨g, j * 3, none⟩ = some (.int .i64 (f : Int)) ∧ W.cell? ⟨g, j * 3 + 1, none⟩ = some (.int .i64 (t : Int)) ∧ W.cell? ⟨g, j * 3 + 2, none⟩ = some (.slice ya m yc)) := fun W hW =>
            have hb := HB2.out.trans (hW.mono HB2.out.size)
            ⟨(hb.cell (p := ⟨g, _, none⟩) hg1).trans q0, (hb.cell (p := ⟨g, _, none⟩) hg1).trans q1, (hb.cell (p := ⟨g, _, none⟩) hg1).trans q2⟩
          obtain ⟨c0', c1', c2'⟩ := HCL.out wr (Below.refl _ _)
          have n0 := World.new_ne wr ⟨g, j * 3, none⟩ c0'
          obtain ⟨y0, y1, y2⟩ := HCL.out (wr.alloc (.cells #[] 5)) ((Below.refl _ _).alloc (Nat.le_refl _) _)
          have z1 : (j : Int) < n := by omega
          have z2 : (0 : Int) ≤ (j : Int) := by omega
          clear q0 q1 q2
          have tok1 : True := trivial
          have tok2 : True := trivial
          have tok3 : True := trivial
          go_wp2_with (first
            | (have _t := tok1
               at_builtin
               refine wpList_append_bytes rfl _ _ rfl wr.heap.size _ 0 [] rfl (Own.empty wr) a2 f c2 (o.take f) rfl (HOF.out.below ((Below.refl _ _).alloc (Nat.le_refl _) _)) HOC.out (by omega) (by simp) ?_
               intro u2 w2 hu2 hg2
               clear tok1
               rw [Nat.zero_add, List.nil_append] at hu2
               have HW2 : Hid (Below wr.heap.size wr w2) := ((Below.refl _ _).alloc (Nat.le_refl _) _).trans ((Own.empty wr).kept (by simp) hg2)
               have HU2 : Hid (Own w2 wr.heap.size u2 f (o.take f)) := hu2
               obtain ⟨ua2, uc2, eu2, -, -, -⟩ := hu2.shape
               subst eu2
               obtain ⟨d0, d1, d2⟩ := HCL.out w2 HW2.out
               clear hu2 hg2)
            | (have _t := tok2
               at_builtin
               refine wpList_append_bytes rfl _ _ rfl wr.heap.size _ f (o.take f) rfl HU2.out ya m yc ys rfl (HYB.out.below HW2.out) HYN.out (by omega) HW2.out.size ?_
               intro u3 w3 hu3 hg3
               clear tok2
               have HW3 : Hid (Below wr.heap.size wr w3) := HW2.out.trans (HU2.out.kept HW2.out.size hg3)
               have HU3 : Hid (Own w3 wr.heap.size u3 (f + m) (o.take f ++ ys)) := hu3
               obtain ⟨ua3, uc3, eu3, -, -, -⟩ := hu3.shape
               subst eu3
               obtain ⟨e0, e1, e2⟩ := HCL.out w3 HW3.out
               clear hu3 hg3)
            | (have _t := tok3
               at_builtin
               refine wpList_append_bytes rfl _ _ rfl wr.heap.size _ (f + m) (o.take f ++ ys) rfl HU3.out ta r tc (o.drop t) rfl (HOT.out.below HW3.out) HOS.out (by omega) HW3.out.size ?_
               intro u4 w4 hu4 hg4
               clear tok3
               have HW4 : Hid (Below wr.heap.size wr w4) := HW3.out.trans (HU3.out.kept HW3.out.size hg4)
               have HU4 : Hid (Own w4 wr.heap.size u4 (f + m + r) (o.take f ++ ys ++ o.drop t)) := hu4
               obtain ⟨ua4, uc4, eu4, -, -, -⟩ := hu4.shape
               subst eu4
               clear hu4 hg4))
          exact ⟨⟨j, f + m + r, uc4, ua4, by omega, by go_num, rfl, by rw [HBD.out]; exact HU4.out.lower HB2.out.size, HB2.out.trans (HW4.out.mono HB2.out.size)⟩, by simp [intOf]⟩
end Go.Proofs.Ytbkifjmfmiipnaa
