/- The document's Reach: the walk. -/
import Derived.Test.YthadgepihjigeaaReachMath
namespace Go.Proofs.Ythadgepihjigeaa
open Go.RowKit Plain
set_option linter.unusedVariables false
set_option maxRecDepth 100000 in
set_option maxHeartbeats 8000000 in
theorem refReach_any (a : Option Addr) (n c : Nat) (ps : List Rw) (a2 : Option Addr) (m c2 : Nat) (F : List Int) (w : World) (h : Graph w a n ps) (hn : n ≤ 1000) (hl : ∀ p ∈ ps, p.xs.length ≤ 1000) (hi : IntsAt w a2 F) (hm : F.length = m) (hm9 : m ≤ 1000) (hnil : a2 = none → c2 = 0)
    (hr : ∀ x, x < n → ∀ p ∈ row (gr ps) x, ∃ y : Nat, y < n ∧ p = (y : Int)) (hF : ∀ v ∈ F, ∃ y : Nat, y < n ∧ v = (y : Int)) :
    Calls Try.prog 17 #[.slice a n c, .slice a2 m c2] w fun e w' => (∃ a l c, e = .returned (.slice a l c) ∧ w'.ownsRow w.heap.size 3 1 (.slice a l c) l (I64 (whereN (rchB (gr ps) F) n)) ∧ l = (whereN (rchB (gr ps) F) n).length) ∧ Below w.heap.size w w' := by
  have HG := Lib.hid h
  have HL := Lib.hid hl
  have HI := Lib.hid hi
  have HM := Lib.hid hm
  have HRT := Lib.hid hr
  have HFN := Lib.hid hF
  have HNI := Lib.hid hnil
  have HN : Hid ((gr ps).length = n) := (gr_len ps).trans h.len
  clear h hl hi hm hr hF hnil
  go_enter Try.func17, Try.ntmps17
  have tok : True := trivial
  go_wp2_with (have _t := tok; at_builtin; clear tok; refine Hid.out ?_)
  refine unhid ?_
  have HO0 : Hid ((w.alloc (.cells #[] 3)).ownsRow w.heap.size 3 1 (.slice (some ⟨w.heap.size, 0, none⟩) 0 0) 0 (I64 [])) := World.ownsRow_lit (base := w.heap.size) (e := 3) (size := 1) w #[] 0 (Nat.le_refl _) (Nat.zero_le _) rfl
  have HBA := Lib.hid (fun o1 => (Below.refl w.heap.size w).alloc (Nat.le_refl _) o1)
  refine wpList_append_ints rfl _ _ rfl w.heap.size _ 0 [] rfl HO0.out a2 m c2 F rfl (HI.out.below (HBA.out _)) HM.out HNI.out (by omega) (HBA.out _).size (fun la lc w1 ho1 hg1 => ?_)
  rw [List.nil_append] at ho1
  have HO1 := Lib.hid ho1
  have HB1 := Lib.hid ((HBA.out _).grown hg1 (HBA.out _).size (fun g hg => (HO0.out.lt g hg).1))
  clear ho1 hg1 HO0 HBA
  rw [Nat.zero_add] at HO1 ⊢
  have HST : Hid (RefIn (gr ps) F 0 F) := .start (by rw [HN.out]; exact HFN.out)
  go_wp2_with fail
  go_loopw [5, 6] (fun s i wr => ∃ (k : Nat) (sa : Option Addr) (sc : Nat) (l : List Int), k ≤ l.length ∧ i = .int .i64 (k : Int) ∧ s = .slice sa l.length sc ∧ wr.ownsRow w.heap.size 3 1 (.slice sa l.length sc) l.length (I64 l) ∧ RefIn (gr ps) F k l ∧ Below w.heap.size w wr) (fun s i _ => m + n - (intOf i).toNat)
  case atStart => exact ⟨0, la, lc, F, by omega, rfl, by rw [HM.out], by rw [HM.out]; exact HO1.out, HST.out, HB1.out⟩
  case round =>
    clear HO1 HB1 HST
    obtain ⟨k, sa, sc, l, hk, rfl, rfl, hs, hrf, hb⟩ := hrel
    have HS := Lib.hid hs
    have HB := Lib.hid hb
    have HRF := Lib.hid hrf
    have hl9 : l.length ≤ m + n := by have := hrf.len; rw [HM.out, HN.out] at this; exact this
    clear hs hb hrf
    have wk := next_int k (by omega)
    by_cases hkn : k = l.length
    · subst hkn
      have HHA := Lib.hid (fun x => HRF.out.has x)
      have HIN := Lib.hid (ints_own HS.out)
      obtain ⟨L, hL⟩ : ∃ L, l.length = L := ⟨_, rfl⟩
      rw [hL] at hl9 HS wk
      have HLL := Lib.hid hL
      rw [hL]
      clear hL hk
      go_wp2_with fail
      go_loopw [8, 9] (fun s i ws => ∃ (x : Nat) (ya : Option Addr) (yl yc : Nat), x ≤ n ∧ i = .int .i64 (x : Int) ∧ s = .slice ya yl yc ∧ yl = (whereN (rchB (gr ps) F) x).length ∧ ws.ownsRow wr.heap.size 3 1 (.slice ya yl yc) yl (I64 (whereN (rchB (gr ps) F) x)) ∧ Below wr.heap.size wr ws) (fun s i _ => n - (intOf i).toNat)
      case atStart => exact ⟨0, none, 0, 0, by omega, rfl, rfl, rfl, World.ownsRow_nil _ _ _ _, Below.refl _ _⟩
      case round =>
        obtain ⟨x, ya, yl, yc, hx, rfl, rfl, hyl, hy, hb⟩ := hrel
        have HY := Lib.hid hy
        have HB2 := Lib.hid hb
        have HYL := Lib.hid hyl
        have hy9 : yl ≤ x := by rw [hyl]; exact where_len _ x
        clear hy hb hyl
        have wx := next_int x (by omega)
        by_cases hxn : x = n
        · subst hxn
          go_wp2_with fail
          go_ret
          exact ⟨⟨ya, yl, yc, rfl, own_lower HY.out HB.out.size, HYL.out⟩, HB.out.trans (HB2.out.mono HB.out.size)⟩
        · have hxl : x < n := by omega
          have hxi : (x : Int) < (n : Int) := by omega
          have HH := Lib.hid (has_any sa L sc l (x : Int) wr (HIN.out.below HB2.out) HLL.out (by omega))
          go_wp2_with fail
          refine HH.out.mono ?_
          rintro e w' ⟨rfl, hw⟩
          have hw2 := hw.symm
          subst hw2
          clear hw
          rw [HHA.out x]
          cases hu : rchB (gr ps) F x with
          | true =>
            have HW : Hid (whereN (rchB (gr ps) F) (x + 1) = whereN (rchB (gr ps) F) x ++ [(x : Int)]) := by
              rw [whereN, if_pos hu]
              rfl
            have HLI := Lib.hid (fun t => lit_one wr (x : Int) t)
            have HBA := Lib.hid (fun o1 => HB2.out.alloc HB2.out.size o1)
            have HL1 : Hid (yl + 1 = (whereN (rchB (gr ps) F) (x + 1)).length) := by
              rw [HW.out, List.length_append, ← HYL.out]; rfl
            clear hu
            have tok : True := trivial
            go_wp2_with (have _t := tok; at_builtin; clear tok; refine Hid.out ?_)
            refine unhid ?_
            refine wpList_append_one rfl _ _ rfl _ (.slice ya yl yc) yl _ rfl (HY.out.alloc _) wr.heap.size _ rfl (HLI.out _) (by omega) (HBA.out _).size (fun g2 gc2 w7 ho1 hg1 hgg hgl => ?_)
            rw [← HW.out] at ho1
            have HO1 := Lib.hid ho1
            have HB7 := Lib.hid ((HBA.out _).grown hg1 (HBA.out _).size (fun g hg => (HY.out.lt g hg).1))
            clear ho1 hg1 hgg HY HBA HLI
            go_wp2_with fail
            exact ⟨⟨x + 1, some ⟨g2, 0, none⟩, yl + 1, gc2, by omega, by first | rfl | exact congrArg (Value.int .i64) (wx _ rfl), rfl, HL1.out, HO1.out, HB7.out⟩, by simp [intOf] <;> omega⟩
          | false =>
            have HW : Hid (whereN (rchB (gr ps) F) (x + 1) = whereN (rchB (gr ps) F) x) := by
              rw [whereN, if_neg (by rw [hu]; exact Bool.false_ne_true), List.append_nil]
              rfl
            have HY1 := Lib.hid HY.out
            rw [← HW.out] at HY1
            have HL1 : Hid (yl = (whereN (rchB (gr ps) F) (x + 1)).length) := by rw [HW.out]; exact HYL.out
            clear hu
            go_wp2_with fail
            exact ⟨⟨x + 1, ya, yl, yc, by omega, by first | rfl | exact congrArg (Value.int .i64) (wx _ rfl), rfl, HL1.out, HY1.out, HB2.out⟩, by simp [intOf] <;> omega⟩
    · have hkl : k < l.length := by omega
      have HX0 := Lib.hid (at_some (xs := l) (j := k) hkl)
      generalize at0 l k = v at *
      obtain ⟨x, hxn, rfl⟩ := HRF.out.node v (List.mem_of_getElem? HX0.out)
      rw [HN.out] at hxn
      have hxi : (x : Int) < (n : Int) := by omega
      obtain ⟨b, off, pa, pc, px, rfl, hp1, hcell0, hpi, hrow⟩ := graph_at HG.out hxn
      have HC := Lib.hid (fun W (hW : Below w.heap.size w W) => (hW.cell (p := ⟨b, off + x, none⟩) (cell_lt hcell0)).trans hcell0)
      have HPI := Lib.hid hpi
      have HRW := Lib.hid hrow
      have hpl : px.length ≤ 1000 := HL.out _ (List.mem_of_getElem? hp1)
      obtain ⟨q, hq⟩ : ∃ q, px.length = q := ⟨_, rfl⟩
      rw [hq] at HC hpl
      have HQ := Lib.hid hq
      clear hpi hcell0 hp1 hq hrow
      go_wp2_with fail
      go_loopw [5, 7] (fun s i ws => ∃ (j : Nat) (sa : Option Addr) (sc : Nat) (l : List Int), k < l.length ∧ j ≤ q ∧ i = .int .i64 (j : Int) ∧ s = .slice sa l.length sc ∧ ws.ownsRow w.heap.size 3 1 (.slice sa l.length sc) l.length (I64 l) ∧ RefIn (gr ps) F k l ∧ l[k]? = some (x : Int) ∧ (∀ p ∈ px.take j, p ∈ l) ∧ Below w.heap.size w ws) (fun s i _ => q - (intOf i).toNat)
      case atStart => exact ⟨0, sa, sc, l, by omega, by omega, rfl, rfl, HS.out, HRF.out, HX0.out, by simp, HB.out⟩
      case round =>
        clear HS HRF HX0 HB hk hkn hkl hl9
        obtain ⟨j, sa, sc, l, hkl, hj, rfl, rfl, hs, hrf, hx0, hpj, hb⟩ := hrel
        have HS := Lib.hid hs
        have HB := Lib.hid hb
        have HRF := Lib.hid hrf
        have HX0 := Lib.hid hx0
        have HPJ := Lib.hid hpj
        have hl9 : l.length ≤ m + n := by have := hrf.len; rw [HM.out, HN.out] at this; exact this
        clear hs hb hrf hx0 hpj
        have hki : (k : Int) < (l.length : Int) := by omega
        obtain ⟨b4, off4, rfl, hc4⟩ := ints_at (ints_own HS.out) (j := k) hkl
        have e4 : at0 l k = (x : Int) := by unfold at0; rw [HX0.out]; rfl
        rw [e4] at hc4
        have hcx := HC.out _ HB.out
        by_cases hjq : j = q
        · subst hjq
          have HR1 : Hid (RefIn (gr ps) F (k + 1) l) := HRF.out.next HX0.out fun p hp => by
            rw [HRW.out] at hp
            exact HPJ.out p (by rw [List.take_of_length_le (by rw [HQ.out]; exact Nat.le_refl _)]; exact hp)
          go_wp2_with fail
          exact ⟨⟨k + 1, _, sc, l, by omega, by first | rfl | exact congrArg (Value.int .i64) (wk _ rfl), rfl, HS.out, HR1.out, HB.out⟩, by simp [intOf] <;> omega⟩
        · have hjl : j < q := by omega
          have hji : (j : Int) < (q : Int) := by omega
          obtain ⟨b3, off3, rfl, hc30⟩ := ints_at HPI.out (j := j) (by rw [HQ.out]; exact hjl)
          have hc3 := (HB.out.cell (p := ⟨b3, off3 + j, none⟩) (cell_lt hc30)).trans hc30
          have HA3 := Lib.hid (at_some (xs := px) (j := j) (by rw [HQ.out]; exact hjl))
          have wj := next_int j (by omega)
          generalize at0 px j = r at *
          have HH := Lib.hid (has_any _ l.length sc l r wr (ints_own HS.out) rfl (by omega))
          have HTS : Hid (∀ p, p ∈ px.take (j + 1) → p ∈ px.take j ∨ p = r) := fun p hp => (mem_take_succ HA3.out).1 hp
          have HRR : Hid (r ∈ row (gr ps) x) := by rw [HRW.out]; exact List.mem_of_getElem? HA3.out
          clear hc30
          go_wp2_with fail
          refine HH.out.mono ?_
          rintro e w' ⟨rfl, hw⟩
          have hw2 := hw.symm
          subst hw2
          clear hw
          cases hu : hasN l r with
          | true =>
            have HP1 : Hid (∀ p ∈ px.take (j + 1), p ∈ l) := fun p hp => by
              rcases HTS.out p hp with hp | rfl
              · exact HPJ.out p hp
              · exact (hasN_iff _ _).1 hu
            clear hu
            go_wp2_with fail
            exact ⟨⟨j + 1, _, sc, l, hkl, by omega, by first | rfl | exact congrArg (Value.int .i64) (wj _ rfl), rfl, HS.out, HRF.out, HX0.out, HP1.out, HB.out⟩, by simp [intOf] <;> omega⟩
          | false =>
            have hno : r ∉ l := fun hm => by rw [(hasN_iff _ _).2 hm] at hu; cases hu
            have HR1 : Hid (RefIn (gr ps) F k (l ++ [r])) := HRF.out.more hkl HX0.out HRR.out (by rw [HN.out]; exact HRT.out x hxn r HRR.out) hno
            have HP1 : Hid (∀ p ∈ px.take (j + 1), p ∈ l ++ [r]) := fun p hp => by
              rcases HTS.out p hp with hp | rfl
              · exact List.mem_append_left _ (HPJ.out p hp)
              · exact List.mem_append_right _ (List.mem_singleton.2 rfl)
            have HX1 : Hid ((l ++ [r])[k]? = some (x : Int)) := by
              show _ = _
              rw [List.getElem?_append_left hkl]; exact HX0.out
            have HLI := Lib.hid (fun t => lit_one wr r t)
            have HBA := Lib.hid (fun o1 => HB.out.alloc HB.out.size o1)
            have hln : (l ++ [r]).length = l.length + 1 := by simp
            clear hu hno
            have tok : True := trivial
            go_wp2_with (have _t := tok; at_builtin; clear tok; refine Hid.out ?_)
            refine unhid ?_
            refine wpList_append_one rfl _ _ rfl w.heap.size (.slice _ l.length sc) l.length _ rfl (HS.out.alloc _) wr.heap.size _ rfl (HLI.out _) (by omega) (HBA.out _).size (fun g2 gc2 w7 ho1 hg1 hgg hgl => ?_)
            have HO1 := Lib.hid ho1
            have HB7 := Lib.hid ((HBA.out _).grown hg1 (HBA.out _).size (fun g hg => (HS.out.lt g hg).1))
            clear ho1 hg1 hgg HS HBA HLI
            go_wp2_with fail
            exact ⟨⟨j + 1, some ⟨g2, 0, none⟩, gc2, l ++ [r], by omega, by omega, by first | rfl | exact congrArg (Value.int .i64) (wj _ rfl), by rw [hln], by rw [hln]; exact HO1.out, HR1.out, HX1.out, HP1.out, HB7.out⟩, by simp [intOf] <;> omega⟩
end Go.Proofs.Ythadgepihjigeaa
