/- CopiesOwn: the walk. -/
import Derived.Test.YtmkhnlfhbiabcaaDoorLawBack
import Derived.Deep.MidRow
namespace Go.Proofs.YtmkhnlfhbiabcaaDoor
open Go.RowKit Plain Go.ChangeShapes Go.WideShapes Go.ChangeAt
set_option linter.unusedVariables false
set_option linter.unusedSimpArgs false
theorem Mid.set {w : World} {base g o n c : Nat} {xs : List Int} (h : Mid w base (.slice (some ⟨g, o, none⟩) n c) n xs) (j : Nat) (hj : j < n) (y : Int) :
    Mid (w.setCell ⟨g, o + j, none⟩ (.int .u8 y)) base (.slice (some ⟨g, o, none⟩) n c) n (xs.set j y) := by
  obtain ⟨hl, ⟨e, h0⟩ | ⟨g', o', cap, e, hb, hlt, hn, hc, hr, ht⟩⟩ := h
  · omega
  · simp only [Value.slice.injEq, Option.some.injEq, Addr.mk.injEq, true_and, and_true] at e
    obtain ⟨⟨rfl, rfl⟩, rfl⟩ := e
    refine ⟨by rw [List.length_set]; exact hl, .inr ⟨g, o, c, rfl, hb, ?_, hn, hc, ?_, World.there_setCells ht g (o + j) [.int .u8 y]⟩⟩
    · rw [World.size_setCell]; exact hlt
    · intro i v hv
      unfold U8 at hv
      rw [List.getElem?_map] at hv
      by_cases hij : i = j
      · subst hij
        rw [List.getElem?_set_self (by omega)] at hv
        injection hv with hv
        subst hv
        refine World.cell?_setCell_same w _ _ (u := .int .u8 (xs[i]?.getD 0)) (hr i _ ?_)
        unfold U8
        rw [List.getElem?_map, List.getElem?_eq_getElem (by omega)]; rfl
      · rw [List.getElem?_set_ne (fun e => hij e.symm)] at hv
        rw [World.cell?_setCell_other w _ _ _ (by intro e; injection e with e1 e2 e3; omega)]
        refine hr i v ?_
        unfold U8
        rw [List.getElem?_map]; exact hv
theorem Mid.setCell {w : World} {base : Nat} {v : Value} {n : Nat} {xs : List Int} (h : Mid w base v n xs) (a : Addr) (u : Value) (hg : a.block < base) : Mid (w.setCell a u) base v n xs := by
  obtain ⟨h1, h2 | ⟨k, o, cap, rfl, hb, hlt, hn, hc, hr, ht⟩⟩ := h
  · exact ⟨h1, .inl h2⟩
  · have hbl : (w.setCell a u).heap[k]? = w.heap[k]? := Below.heap_setCell w a u k (by omega)
    exact ⟨h1, .inr ⟨k, o, cap, rfl, hb, by rw [World.size_setCell]; exact hlt, hn, hc, rangeAt_block hr hbl, there_block ht hbl⟩⟩
theorem Mid.cell {w : World} {base g o n c : Nat} {xs : List Int} (h : Mid w base (.slice (some ⟨g, o, none⟩) n c) n xs) (j : Nat) (hj : j < n) :
    w.cell? ⟨g, o + j, none⟩ = some (.int .u8 (xs[j]?.getD 0)) ∧ w.frozen? ⟨g, o + j, none⟩ = false ∧ base ≤ g ∧ g < w.heap.size := by
  obtain ⟨hl, ⟨e, h0⟩ | ⟨g', o', cap, e, hb, hlt, hn, hc, hr, ht⟩⟩ := h
  · omega
  · simp only [Value.slice.injEq, Option.some.injEq, Addr.mk.injEq, true_and, and_true] at e
    obtain ⟨⟨rfl, rfl⟩, rfl⟩ := e
    refine ⟨hr j _ ?_, (ht j (by omega)).2, hb, hlt⟩
    unfold U8
    rw [List.getElem?_map, List.getElem?_eq_getElem (by omega)]; rfl
theorem Mid.some {w : World} {base n c : Nat} {a : Option Addr} {xs : List Int} (h : Mid w base (.slice a n c) n xs) (hn : 0 < n) : ∃ g o, a = .some ⟨g, o, none⟩ := by
  obtain ⟨hl, ⟨e, h0⟩ | ⟨g', o', cap, e, -⟩⟩ := h
  · omega
  · simp only [Value.slice.injEq] at e
    exact ⟨g', o', e.1⟩
theorem flip_range (x : Int) (h : 0 ≤ x ∧ x ≤ 255) : 0 ≤ bits .xor .u8 x 255 ∧ bits .xor .u8 x 255 ≤ 255 := by
  obtain ⟨n, rfl⟩ := Int.eq_ofNat_of_zero_le h.1
  have key : ∀ m : Fin 256, 0 ≤ bits .xor .u8 (m.val : Int) 255 ∧ bits .xor .u8 (m.val : Int) 255 ≤ 255 := by decide +kernel
  exact key ⟨n, by omega⟩
theorem set_range {xs : List Int} (h : ∀ j : Nat, 0 ≤ xs[j]?.getD 0 ∧ xs[j]?.getD 0 ≤ 255) (k : Nat) (y : Int) (hy : 0 ≤ y ∧ y ≤ 255) : ∀ j : Nat, 0 ≤ (xs.set k y)[j]?.getD 0 ∧ (xs.set k y)[j]?.getD 0 ≤ 255 := fun j => by
  rw [List.getElem?_set]
  split
  · split
    · exact hy
    · simp
  · exact h j
theorem build_none25 (W : World) : (Instr.build 25 #[]).run Tryd.prog W = .ok (.agg (fromA ⟨#[]⟩ zeros20)) W := by kernel_rfl
set_option maxRecDepth 100000 in
set_option maxHeartbeats 32000000 in
theorem lawown_any (a : Option Addr) (len cap : Nat) (Z : List Int) (w : World) (hE : Env w) (R0 : RowB w a len cap Z) :
    Calls Tryd.prog 6 #[.slice a len cap] w fun e w' => e = .returned (.bool true) ∧ Below w.heap.size w w' := by
  have hle := R0.le
  have hmin : min (len : Int) 500 = ((min len 500 : Nat) : Int) := by omega
  have R1 := R0.front (min len 500) (by omega)
  obtain ⟨m, hm⟩ : ∃ m, min len 500 = m := ⟨_, rfl⟩
  rw [hm] at hmin R1
  have hm5 : m ≤ 500 := by omega
  have hmc : m ≤ cap := by omega
  have hsl := fun W => slice_to a len cap m hmc W
  generalize Z.take m = T at *
  have HTB : Hid (∀ x ∈ T, 0 ≤ x ∧ x ≤ 255) := fun x hx => by have := R1.mem x hx; omega
  have HM5 := Lib.hid hm5
  have HTL := Lib.hid R1.len
  obtain ⟨s, hs⟩ : ∃ s, strOfNums T = s := ⟨_, rfl⟩
  have HNS : Hid (numsOf s = T) := by show _ = _; rw [← hs]; exact nums_str T HTB.out
  have HSTR := Lib.hid hs
  have HSS : Hid (s.size = m) := by
    show _ = _
    rw [← numsOf_length, HNS.out, R1.len]
  have HE := Lib.hid hE
  have HB0 : Hid (Below w.heap.size w (w.alloc (.cells #[] 5))) := (Below.refl _ _).alloc (Nat.le_refl _) _
  have HM0 := Lib.hid (Own.empty w).mid
  have HS0 := Lib.hid (R1.below HB0.out).bytes
  have tok : True := trivial
  clear R0 R1 hle hm hm5 hs hE hmc
  go_enter Tryd.func6, Tryd.ntmps6
  go_wp2_with (have _t := tok; refine wpList_append_to rfl _ _ 22 rfl w.heap.size _ 0 [] rfl HM0.out _ m T rfl (src_bytes HS0.out) m T (Nat.zero_add m) rfl (by have := HM5.out; omega) HB0.out.size ?_; clear tok; refine Hid.out ?_)
  refine unhid ?_
  intro qa qc w1 hm hb
  have HQ := Lib.hid (hm.row (range_of_mem HTB.out))
  have HB1 := Lib.hid (HB0.out.trans hb)
  have htx := text_run w1 qa m qc T HQ.out.bytes
  rw [HSTR.out] at htx
  clear hm hb HM0 HS0 HB0 hsl hmin
  go_wp2_with (first
    | refine wpList_build_0 rfl 28 rfl (.agg (fromA ⟨#[]⟩ zeros20)) build_none ?_)
  clear htx
  refine (print_any qa m qc T ⟨#[]⟩ zeros20 w1 (HE.out.below HB1.out) HQ.out (by have := HM5.out; omega) rfl (by decide)).mono ?_
  rintro e w4 ⟨hpo, hb4⟩
  obtain ⟨ys, hys⟩ : ∃ ys, printL T ⟨#[]⟩ zeros20 = some ys := by
    rw [print_plain]
    split
    · exact ⟨_, rfl⟩
    · exact ⟨_, rfl⟩
  rw [hys] at hpo
  obtain ⟨va, vc, rfl, hmv⟩ := hpo
  have HYB := Lib.hid (range_of_mem (printL_bytes hys HTB.out))
  have HBK := Lib.hid (back_same rfl (by decide) hys)
  have HYS := Lib.hid hys
  have HYL : Hid (ys.length ≤ 10000) := by
    show _ ≤ _
    have h1 := HTL.out
    have h2 := HM5.out
    have h3 := printL_most hys rfl
    omega
  have HV := Lib.hid hmv
  have HB4 := Lib.hid hb4
  have HBw4 := Lib.hid (HB1.out.trans (hb4.mono HB1.out.size))
  clear hmv hb4 hys
  go_wp2_with fail
  refine (cParse_any va ys.length vc ys w4 (HV.out.row HYB.out) (HE.out.below HBw4.out) (by have := HYL.out; omega)).mono ?_
  rintro e w5 ⟨hpo, hb5⟩
  rw [HBK.out] at hpo
  obtain ⟨ua, uc, rfl, hmu⟩ := hpo
  rw [HTL.out] at hmu ⊢
  have HI : Hid ((Tryd.prog.info? 28).map (·.size) = some (fromA ⟨#[]⟩ zeros20).size) := from_info _ _ rfl
  have HZ5 : Hid ((w5.alloc (.cells (fromA ⟨#[]⟩ zeros20) 28)).heap[w5.heap.size]? = some (.cells (fromA ⟨#[]⟩ zeros20) 28 (0, 0))) := heap_alloc_new _ _
  have hb6 : Below w5.heap.size w5 ((w5.alloc (.cells (fromA ⟨#[]⟩ zeros20) 28)).setRow w5.heap.size (fromA ⟨#[]⟩ zeros20)) := below_setRow ((Below.refl _ _).alloc (Nat.le_refl _) _) (Nat.le_refl _) _
  have hb46 := hb5.trans (hb6.mono hb5.size)
  have HU := Lib.hid (hmu.below hb6)
  have HV6 := Lib.hid (HV.out.below hb46)
  have HG4 : Hid (∀ g o, va = some ⟨g, o, none⟩ → 0 < ys.length → g < w4.heap.size) := fun g o e h => by
    subst e
    exact (HV.out.cell 0 h).2.2.2
  have HB6 : Hid (Below w1.heap.size w1 ((w5.alloc (.cells (fromA ⟨#[]⟩ zeros20) 28)).setRow w5.heap.size (fromA ⟨#[]⟩ zeros20))) := HB4.out.trans (hb46.mono HB4.out.size)
  have HS14 : Hid (w1.heap.size ≤ w4.heap.size) := HB4.out.size
  have hzf := zero_from
  clear hmu hb5 hb6 hb46 HV
  obtain ⟨n4, hn4⟩ : ∃ n, ys.length = n := ⟨_, rfl⟩
  simp only [hn4] at HV6 HG4 HYL ⊢
  clear hn4
  go_wp2_with (first
    | refine wpList_store_row rfl 28 _ _ rfl w5.heap.size (fromA ⟨#[]⟩ zeros20) rfl rfl 28 (fromA ⟨#[]⟩ zeros20) HZ5.out HI.out rfl (fromA_one _ _) ?_)
  clear hzf HZ5
  generalize (w5.alloc (.cells (fromA ⟨#[]⟩ zeros20) 28)).setRow w5.heap.size (fromA ⟨#[]⟩ zeros20) = w6 at *
  go_loopw [9] (fun i wr => ∃ (k : Nat) (X : List Int), k ≤ n4 ∧ i = .int .i64 (k : Int) ∧ Mid wr w1.heap.size (.slice va n4 vc) n4 X ∧ (∀ j : Nat, 0 ≤ X[j]?.getD 0 ∧ X[j]?.getD 0 ≤ 255) ∧ Mid wr w4.heap.size (.slice ua m uc) m T ∧ Below w1.heap.size w1 wr) (fun i _ => n4 - (intOf i).toNat)
  case atStart => exact ⟨0, ys, by omega, rfl, HV6.out, HYB.out, HU.out, HB6.out⟩
  case round =>
    obtain ⟨k, X, hk, rfl, hx, hxb, hu, hbw⟩ := hrel
    have wk := next_int k (by have := HYL.out; omega)
    by_cases hkn : k < n4
    · obtain ⟨g, o, rfl⟩ := hx.some (by omega)
      obtain ⟨c1, c2, c3, c4⟩ := hx.cell k hkn
      have hlt := HG4.out g o rfl (by omega)
      obtain ⟨xv, hxv⟩ : ∃ x, X[k]?.getD 0 = x := ⟨_, rfl⟩
      have hxr := hxb k
      rw [hxv] at c1 hxr
      obtain ⟨yv, hyv⟩ : ∃ y, bits .xor .u8 xv 255 = y := ⟨_, rfl⟩
      have hyr := flip_range xv hxr
      rw [hyv] at hyr
      have HN := Lib.hid (hx.set k hkn yv)
      have HNB := Lib.hid (set_range hxb k yv hyr)
      have HNU := Lib.hid (hu.setCell ⟨g, o + k, none⟩ (.int .u8 yv) hlt)
      have HNW := Lib.hid (hbw.setCell (p := ⟨g, o + k, none⟩) c3 (.int .u8 yv))
      have hki : (k : Int) < (n4 : Int) := by omega
      have WK := Lib.hid (wk _ rfl)
      clear hx hxb hu hbw hk c3 c4 hlt hxv hxr hyr wk
      go_wp2_with fail
      exact ⟨⟨k + 1, _, by omega, by rw [WK.out], HN.out, HNB.out, HNU.out, HNW.out⟩, by rw [WK.out]; simp [intOf]; omega⟩
    · have hke : k = n4 := by omega
      have hki : ¬ (k : Int) < (n4 : Int) := by omega
      have HU1 := Lib.hid hu
      have HW1 := Lib.hid hbw
      clear hx hxb hu hbw hk wk HU HB6 HV6 HG4 hke hkn
      go_wp2_with fail
      clear hki
      rename World => wa
      go_loopw [10] (fun j wr => ∃ (k2 : Nat) (Y : List Int), k2 ≤ m ∧ j = .int .i64 (k2 : Int) ∧ Mid wr w4.heap.size (.slice ua m uc) m Y ∧ (∀ j : Nat, 0 ≤ Y[j]?.getD 0 ∧ Y[j]?.getD 0 ≤ 255) ∧ Below w1.heap.size w1 wr) (fun j _ => m - (intOf j).toNat)
      case atStart => exact ⟨0, T, by omega, rfl, HU1.out, range_of_mem HTB.out, HW1.out⟩
      case round =>
        obtain ⟨k2, Y, hk2, rfl, hy, hyb, hbw⟩ := hrel
        have wk := next_int k2 (by have := HM5.out; omega)
        have htx := text_run wr qa m qc T (HQ.out.below hbw).bytes
        rw [HSTR.out] at htx
        by_cases hkn : k2 < m
        · obtain ⟨g, o, rfl⟩ := hy.some (by omega)
          obtain ⟨c1, c2, c3, c4⟩ := hy.cell k2 hkn
          obtain ⟨xv, hxv⟩ : ∃ x, Y[k2]?.getD 0 = x := ⟨_, rfl⟩
          have hxr := hyb k2
          rw [hxv] at c1 hxr
          obtain ⟨yv, hyv⟩ : ∃ y, bits .xor .u8 xv 255 = y := ⟨_, rfl⟩
          have hyr := flip_range xv hxr
          rw [hyv] at hyr
          have HN := Lib.hid (hy.set k2 hkn yv)
          have HNB := Lib.hid (set_range hyb k2 yv hyr)
          have HNW := Lib.hid (hbw.setCell (p := ⟨g, o + k2, none⟩) (Nat.le_trans HS14.out c3) (.int .u8 yv))
          have hki : (k2 : Int) < (m : Int) := by omega
          have WK := Lib.hid (wk _ rfl)
          clear hy hyb hbw hk2 c3 c4 hxv hxr hyr wk
          go_wp2_with (first
            | refine wpList_eql rfl .eql 9 _ _ _ rfl (.string s) (.string s) rfl rfl (.bool true) (guard_str _ _ _ _) (eq_self s) ?_)
          exact ⟨⟨k2 + 1, _, by omega, by rw [WK.out], HN.out, HNB.out, HNW.out⟩, by rw [WK.out]; simp [intOf]; omega⟩
        · have hki : ¬ (k2 : Int) < (m : Int) := by omega
          have HW2 := Lib.hid hbw
          clear hy hyb hbw hk2 wk htx HU1 HW1 hkn
          go_wp2_with (first
            | refine wpList_build_0 rfl 28 rfl (.agg (fromA ⟨#[]⟩ zeros20)) build_none ?_)
          clear hki
          have HBA := Lib.hid (HB1.out.trans (HW2.out.mono HB1.out.size))
          refine (print_any qa m qc T ⟨#[]⟩ zeros20 wr (HE.out.below HBA.out) (HQ.out.below HW2.out) (by have := HM5.out; omega) rfl (by decide)).mono ?_
          rintro e x1 ⟨hpo, hb⟩
          rw [HYS.out] at hpo
          obtain ⟨xa, xc, rfl, hmx⟩ := hpo
          have HX := Lib.hid (hmx.row HYB.out)
          have HX1 := Lib.hid (HW2.out.trans (hb.mono HW2.out.size))
          clear hmx hb HW2
          obtain ⟨t, hr, ht⟩ : ∃ t, refPrintB s ⟨#[]⟩ zeros20 = some t ∧ numsOf t = ys := by
            have h := print_same s ⟨#[]⟩ zeros20
            rw [HNS.out, HYS.out] at h
            obtain ⟨t, h1, h2⟩ := Option.map_eq_some_iff.1 h.symm
            exact ⟨t, h1, h2⟩
          have HRF := Lib.hid hr
          have HTY : Hid (strOfNums ys = t) := by show _ = _; rw [← ht]; exact str_nums t
          clear hr ht
          generalize ys.length = yl at *
          go_wp2_with (first
            | refine wpList_build_0 rfl 25 rfl (.agg (fromA ⟨#[]⟩ zeros20)) build_none25 ?_)
          refine (refPrint_any s ⟨#[]⟩ zeros20 x1 (by have := HM5.out; have := HSS.out; omega) rfl (by decide)).mono ?_
          rintro e x2 ⟨hpo, hb⟩
          rw [HRF.out] at hpo
          obtain rfl : e = _ := hpo
          have HX2 := Lib.hid (HX1.out.trans (hb.mono HX1.out.size))
          have HXR := Lib.hid (HX.out.below hb)
          have HBB := Lib.hid (HB1.out.trans (HX2.out.mono HB1.out.size))
          clear hb HX HX1 HBA
          go_wp2_with fail
          refine (known_any x2 (HE.out.below HBB.out)).mono ?_
          rintro e x3 ⟨rfl, hb⟩
          have HX3 := Lib.hid (HX2.out.trans (hb.mono HX2.out.size))
          have HBC := Lib.hid (HB1.out.trans (HX3.out.mono HB1.out.size))
          have htx := text_run x3 qa m qc T (HQ.out.below HX3.out).bytes
          have htn := text_run x3 xa yl xc ys (HXR.out.below hb).bytes
          rw [HSTR.out] at htx
          rw [HTY.out] at htn
          clear hb
          go_wp2_with (first
            | refine wpList_eql rfl .eql 9 _ _ _ rfl (.string s) (.string s) rfl rfl (.bool true) (guard_str _ _ _ _) (eq_self s) ?_
            | refine wpList_eql rfl .eql 9 _ _ _ rfl (.string t) (.string t) rfl rfl (.bool true) (guard_str _ _ _ _) (eq_self t) ?_)
          go_ret
          exact ⟨rfl, HBC.out⟩
end Go.Proofs.YtmkhnlfhbiabcaaDoor
