/- The document's order of entries: the walk. -/
import Derived.Test.YthemolkmciofaaaDoorTrRefDig
namespace Go.Proofs.YthemolkmciofaaaDoor
open Go.RowKit Plain
set_option linter.unusedVariables false
set_option linter.unusedSimpArgs false
theorem below_drewN (w : World) (n : Nat) : Below w.heap.size w (w.drewN n) := ⟨rfl, rfl, rfl, Nat.le_refl _, fun _ _ => rfl⟩
theorem cmp_step (X Y : ByteArray) (m : Nat) (hx : m < X.size) (hy : m < Y.size) : (at8 X m = at8 Y m → Lib.compareBytes (X.data.toList.drop m) (Y.data.toList.drop m) = Lib.compareBytes (X.data.toList.drop (m + 1)) (Y.data.toList.drop (m + 1))) ∧
    (¬ at8 X m = at8 Y m → decide (Lib.compareBytes (X.data.toList.drop m) (Y.data.toList.drop m) < 0) = decide (at8 X m < at8 Y m)) := by
  have h1 : m < X.data.toList.length := by rw [← Lib.size_eq]; exact hx
  have h2 : m < Y.data.toList.length := by rw [← Lib.size_eq]; exact hy
  unfold at8
  rw [List.drop_eq_getElem_cons h1, List.drop_eq_getElem_cons h2, List.getElem?_eq_getElem h1, List.getElem?_eq_getElem h2, Option.getD_some, Option.getD_some]
  generalize X.data.toList[m] = a
  generalize Y.data.toList[m] = b
  constructor
  · intro h
    have := UInt8.toNat_inj.1 h
    subst this
    rw [Lib.compareBytes, if_neg (UInt8.lt_irrefl a), if_neg (UInt8.lt_irrefl a)]
  · intro h
    rw [Lib.compareBytes]
    by_cases h1 : a < b
    · rw [if_pos h1, decide_eq_true (by decide), decide_eq_true (UInt8.lt_iff_toNat_lt.1 h1)]
    · have h2 : b < a := by
        rw [UInt8.lt_iff_toNat_lt] at h1 ⊢
        omega
      rw [if_neg h1, if_pos h2, decide_eq_false (by decide), decide_eq_false (by rw [← UInt8.lt_iff_toNat_lt]; exact h1)]
theorem cmp_end (X Y : ByteArray) (m : Nat) (hx : m ≤ X.size) (hy : m ≤ Y.size) (h : m = X.size ∨ m = Y.size) : decide (Lib.compareBytes (X.data.toList.drop m) (Y.data.toList.drop m) < 0) = decide (X.size < Y.size) := by
  rw [Lib.size_eq] at hx hy
  rw [Lib.size_eq, Lib.size_eq] at h
  rw [Lib.size_eq, Lib.size_eq]
  by_cases h1 : m = X.data.toList.length
  · rw [List.drop_of_length_le (by omega)]
    by_cases h2 : m = Y.data.toList.length
    · have e : ¬ X.data.toList.length < Y.data.toList.length := by omega
      rw [List.drop_of_length_le (by omega : Y.data.toList.length ≤ m), decide_eq_false e]
      rfl
    · rw [List.drop_eq_getElem_cons (by omega : m < Y.data.toList.length), decide_eq_true (by omega : X.data.toList.length < Y.data.toList.length)]
      rfl
  · have h2 : m = Y.data.toList.length := by omega
    rw [List.drop_eq_getElem_cons (by omega : m < X.data.toList.length), List.drop_of_length_le (by omega : Y.data.toList.length ≤ m), decide_eq_false (by omega : ¬ X.data.toList.length < Y.data.toList.length)]
    rfl
set_option maxRecDepth 100000 in
set_option maxHeartbeats 16000000 in
theorem refless_any (x y : TE) (hxp : x.p.size ≤ 100000) (hyp : y.p.size ≤ 100000) (w : World) :
    Calls Tryd.prog 8 #[.agg (entA x), .agg (entA y)] w fun e w' => e = .returned (.bool (ltB (keyT x) (keyT y))) ∧ Below w.heap.size w w' := by
  obtain ⟨w0, hw0⟩ : ∃ W, (w.alloc (.cells (entA x) 33)).alloc (.cells (entA y) 33) = W := ⟨_, rfl⟩
  have HW0 := Lib.hid hw0
  have HB0 : Hid (Below w.heap.size w w0) := by rw [← hw0]; exact ((Below.refl _ _).alloc (Nat.le_refl _) _).alloc (by simp) _
  have h2 := heap_two w (.cells (entA x) 33 (0, 0)) (.cells (entA y) 33 (0, 0))
  rw [show (w.alloc (.cells (entA x) 33 (0, 0))).alloc (.cells (entA y) 33 (0, 0)) = w0 from hw0] at h2
  have hx0 := range_mode (row_ent h2.1)
  have hx1 := range_name (row_ent h2.1)
  have hy0 := range_mode (row_ent h2.2)
  have hy1 := range_name (row_ent h2.2)
  rw [Nat.zero_add] at hx1 hy1
  have HSX := Lib.hid (Array.getElem?_eq_some_iff.1 h2.1).1
  have HSY := Lib.hid (Array.getElem?_eq_some_iff.1 h2.2).1
  have key : ∀ z : TE, txt (keyT z) = if z.k = 16384 then z.p ++ ⟨#[47]⟩ else z.p := fun z => by
    unfold keyT
    split
    · exact bytes_ext (by rw [txt_list, ByteArray.data_append, Array.toList_append])
    · exact txt_of _
  have HKX := Lib.hid (key x)
  have HKY := Lib.hid (key y)
  have hax := add_str x.p ⟨#[47]⟩ (by show _ + 1 ≤ _; omega)
  have hay := add_str y.p ⟨#[47]⟩ (by show _ + 1 ≤ _; omega)
  have HXS : Hid ((txt (keyT x)).size ≤ 100001) := by
    show _ ≤ _
    rw [key x]; split
    · rw [ByteArray.size_append]; show _ + 1 ≤ _; omega
    · omega
  have hres : ltB (keyT x) (keyT y) = ltB (txt (keyT x)).data.toList (txt (keyT y)).data.toList := by rw [txt_list, txt_list]
  rw [hres]
  obtain ⟨qx, hqx⟩ : ∃ q, x.p ++ (⟨#[47]⟩ : ByteArray) = q := ⟨_, rfl⟩
  obtain ⟨qy, hqy⟩ : ∃ q, y.p ++ (⟨#[47]⟩ : ByteArray) = q := ⟨_, rfl⟩
  rw [hqx] at hax HKX
  rw [hqy] at hay HKY
  clear hw0 h2 key hres hqx hqy hxp hyp
  generalize txt (keyT x) = X at *
  generalize txt (keyT y) = Y at *
  generalize x.p = px at *
  generalize y.p = py at *
  generalize x.k = kx at *
  generalize y.k = ky at *
  by_cases hkx : kx = 16384
  · subst hkx
    by_cases hky : ky = 16384
    · subst hky
      obtain rfl : X = qx := by rw [HKX.out, if_pos rfl]
      obtain rfl : Y = qy := by rw [HKY.out, if_pos rfl]
      clear HKX HKY
      go_enter Tryd.func8, Tryd.ntmps8
      go_wp2_with fail
      rw [HW0.out]
      go_quiet (fail)
      have HB1 := Lib.hid (HB0.out.trans ((below_drewN w0 nq).mono HB0.out.size))
      have hd0 := (below_drewN w0 nq)
      have hx0 := (hd0.cell (p := ⟨w.heap.size, 0, none⟩) HSX.out).trans hx0
      have hy0 := (hd0.cell (p := ⟨w.heap.size + 1, 0, none⟩) HSY.out).trans hy0
      clear hd0
      generalize w0.drewN nq = w1 at *
      go_wp2_with fail
      clear hx0 hx1 hy0 hy1 hax hay
      go_loopw [7] (fun i wr => ∃ m : Nat, m ≤ X.size ∧ m ≤ Y.size ∧ i = .int .i64 (m : Int) ∧ Lib.compareBytes X.data.toList Y.data.toList = Lib.compareBytes (X.data.toList.drop m) (Y.data.toList.drop m) ∧ Below w.heap.size w wr) (fun i _ => X.size - (intOf i).toNat)
      case atStart => exact ⟨0, Nat.zero_le _, Nat.zero_le _, rfl, rfl, HB1.out⟩
      case round =>
        obtain ⟨m, hmx, hmy, rfl, hcb, hb⟩ := hrel
        have HCB := Lib.hid hcb
        have HBW := Lib.hid hb
        have WM := Lib.hid (next_int m (by have := HXS.out; omega))
        clear hcb hb
        by_cases hx : m < X.size
        · have hxi : (m : Int) < (X.size : Int) := by omega
          by_cases hy : m < Y.size
          · have hyi : (m : Int) < (Y.size : Int) := by omega
            have hix := fun W => index_text X m hx (m : Int) rfl W
            have hiy := fun W => index_text Y m hy (m : Int) rfl W
            have HST := Lib.hid (cmp_step X Y m hx hy)
            have HMX := Lib.hid hx
            have HMY := Lib.hid hy
            generalize at8 X m = a at *
            generalize at8 Y m = b at *
            clear hmx hmy hx hy
            by_cases hab : a = b
            · subst hab
              have HS2 : Hid (Lib.compareBytes X.data.toList Y.data.toList = Lib.compareBytes (X.data.toList.drop (m + 1)) (Y.data.toList.drop (m + 1))) := by show _ = _; rw [HCB.out]; exact HST.out.1 rfl
              clear HST
              go_wp2_with fail
              go_quiet (fail)
              have HBN := Lib.hid (HBW.out.trans ((below_drewN wr nq).mono HBW.out.size))
              generalize wr.drewN nq = w3 at *
              go_wp2_with fail
              exact ⟨⟨m + 1, HMX.out, HMY.out, by first | rw [WM.out _ rfl] | rfl, HS2.out, HBN.out⟩, by have := HMX.out; (first | rw [WM.out _ rfl] | skip); simp [intOf]; omega⟩
            · have habi : ¬ (a : Int) = (b : Int) := by omega
              have habb : ((a : Int) != (b : Int)) = true := by simp; omega
              have HLT : Hid (ltB X.data.toList Y.data.toList = decide (a < b)) := by show _ = _; unfold ltB; rw [HCB.out]; exact HST.out.2 hab
              by_cases hl : a < b
              · have hli : (a : Int) < (b : Int) := by omega
                have HF : Hid (ltB X.data.toList Y.data.toList = true) := by show _ = _; rw [HLT.out, decide_eq_true hl]
                clear HST hab hl
                go_wp2_with fail
                go_quiet (fail)
                have HBN := Lib.hid (HBW.out.trans ((below_drewN wr nq).mono HBW.out.size))
                generalize wr.drewN nq = w3 at *
                go_wp2_with fail
                go_quiet (fail)
                have HBM := Lib.hid (HBN.out.trans ((below_drewN w3 nq).mono HBN.out.size))
                generalize w3.drewN nq = w4 at *
                go_wp2_with fail
                (try simp only [Exit.inBlock, Exit.then])
                go_ret
                exact ⟨by first | (rw [HF.out]; rfl) | (rw [HLT.out]; rfl), HBM.out⟩
              · have hli : ¬ (a : Int) < (b : Int) := by omega
                have HF : Hid (ltB X.data.toList Y.data.toList = false) := by show _ = _; rw [HLT.out, decide_eq_false hl]
                clear HST hab hl
                go_wp2_with fail
                go_quiet (fail)
                have HBN := Lib.hid (HBW.out.trans ((below_drewN wr nq).mono HBW.out.size))
                generalize wr.drewN nq = w3 at *
                go_wp2_with fail
                go_quiet (fail)
                have HBM := Lib.hid (HBN.out.trans ((below_drewN w3 nq).mono HBN.out.size))
                generalize w3.drewN nq = w4 at *
                go_wp2_with fail
                (try simp only [Exit.inBlock, Exit.then])
                go_ret
                exact ⟨by first | (rw [HF.out]; rfl) | (rw [HLT.out]; rfl), HBM.out⟩
          · have hyi : ¬ (m : Int) < (Y.size : Int) := by omega
            have hsz : ¬ (X.size : Int) < (Y.size : Int) := by omega
            have HF : Hid (ltB X.data.toList Y.data.toList = false) := by
              show _ = _
              unfold ltB
              rw [HCB.out, cmp_end X Y m (by omega) (by omega) (by omega)]
              exact decide_eq_false (by omega)
            clear hx hy hmx hmy
            go_wp2_with fail
            go_ret
            exact ⟨by rw [HF.out]; rfl, HBW.out⟩
        · have hxi : ¬ (m : Int) < (X.size : Int) := by omega
          have HE : Hid (ltB X.data.toList Y.data.toList = decide (X.size < Y.size)) := by
            show _ = _
            unfold ltB
            rw [HCB.out, cmp_end X Y m (by omega) (by omega) (by omega)]
          by_cases hl : X.size < Y.size
          · have hsz : (X.size : Int) < (Y.size : Int) := by omega
            have HF : Hid (ltB X.data.toList Y.data.toList = true) := by show _ = _; rw [HE.out, decide_eq_true hl]
            clear hx hmx hmy hl HE
            go_wp2_with fail
            go_ret
            exact ⟨by rw [HF.out]; rfl, HBW.out⟩
          · have hsz : ¬ (X.size : Int) < (Y.size : Int) := by omega
            have HF : Hid (ltB X.data.toList Y.data.toList = false) := by show _ = _; rw [HE.out, decide_eq_false hl]
            clear hx hmx hmy hl HE
            go_wp2_with fail
            go_ret
            exact ⟨by rw [HF.out]; rfl, HBW.out⟩
    · obtain rfl : X = qx := by rw [HKX.out, if_pos rfl]
      obtain rfl : Y = py := by rw [HKY.out, if_neg hky]
      have hkyb : (ky == 16384) = false := beq_eq_false_iff_ne.2 hky
      clear HKX HKY
      go_enter Tryd.func8, Tryd.ntmps8
      go_wp2_with fail
      rw [HW0.out]
      go_quiet (fail)
      have HB1 := Lib.hid (HB0.out.trans ((below_drewN w0 nq).mono HB0.out.size))
      have hd0 := (below_drewN w0 nq)
      have hx0 := (hd0.cell (p := ⟨w.heap.size, 0, none⟩) HSX.out).trans hx0
      have hy0 := (hd0.cell (p := ⟨w.heap.size + 1, 0, none⟩) HSY.out).trans hy0
      clear hd0
      generalize w0.drewN nq = w1 at *
      go_wp2_with fail
      clear hx0 hx1 hy0 hy1 hax hay
      go_loopw [7] (fun i wr => ∃ m : Nat, m ≤ X.size ∧ m ≤ Y.size ∧ i = .int .i64 (m : Int) ∧ Lib.compareBytes X.data.toList Y.data.toList = Lib.compareBytes (X.data.toList.drop m) (Y.data.toList.drop m) ∧ Below w.heap.size w wr) (fun i _ => X.size - (intOf i).toNat)
      case atStart => exact ⟨0, Nat.zero_le _, Nat.zero_le _, rfl, rfl, HB1.out⟩
      case round =>
        obtain ⟨m, hmx, hmy, rfl, hcb, hb⟩ := hrel
        have HCB := Lib.hid hcb
        have HBW := Lib.hid hb
        have WM := Lib.hid (next_int m (by have := HXS.out; omega))
        clear hcb hb
        by_cases hx : m < X.size
        · have hxi : (m : Int) < (X.size : Int) := by omega
          by_cases hy : m < Y.size
          · have hyi : (m : Int) < (Y.size : Int) := by omega
            have hix := fun W => index_text X m hx (m : Int) rfl W
            have hiy := fun W => index_text Y m hy (m : Int) rfl W
            have HST := Lib.hid (cmp_step X Y m hx hy)
            have HMX := Lib.hid hx
            have HMY := Lib.hid hy
            generalize at8 X m = a at *
            generalize at8 Y m = b at *
            clear hmx hmy hx hy
            by_cases hab : a = b
            · subst hab
              have HS2 : Hid (Lib.compareBytes X.data.toList Y.data.toList = Lib.compareBytes (X.data.toList.drop (m + 1)) (Y.data.toList.drop (m + 1))) := by show _ = _; rw [HCB.out]; exact HST.out.1 rfl
              clear HST
              go_wp2_with fail
              go_quiet (fail)
              have HBN := Lib.hid (HBW.out.trans ((below_drewN wr nq).mono HBW.out.size))
              generalize wr.drewN nq = w3 at *
              go_wp2_with fail
              exact ⟨⟨m + 1, HMX.out, HMY.out, by first | rw [WM.out _ rfl] | rfl, HS2.out, HBN.out⟩, by have := HMX.out; (first | rw [WM.out _ rfl] | skip); simp [intOf]; omega⟩
            · have habi : ¬ (a : Int) = (b : Int) := by omega
              have habb : ((a : Int) != (b : Int)) = true := by simp; omega
              have HLT : Hid (ltB X.data.toList Y.data.toList = decide (a < b)) := by show _ = _; unfold ltB; rw [HCB.out]; exact HST.out.2 hab
              by_cases hl : a < b
              · have hli : (a : Int) < (b : Int) := by omega
                have HF : Hid (ltB X.data.toList Y.data.toList = true) := by show _ = _; rw [HLT.out, decide_eq_true hl]
                clear HST hab hl
                go_wp2_with fail
                go_quiet (fail)
                have HBN := Lib.hid (HBW.out.trans ((below_drewN wr nq).mono HBW.out.size))
                generalize wr.drewN nq = w3 at *
                go_wp2_with fail
                go_quiet (fail)
                have HBM := Lib.hid (HBN.out.trans ((below_drewN w3 nq).mono HBN.out.size))
                generalize w3.drewN nq = w4 at *
                go_wp2_with fail
                (try simp only [Exit.inBlock, Exit.then])
                go_ret
                exact ⟨by first | (rw [HF.out]; rfl) | (rw [HLT.out]; rfl), HBM.out⟩
              · have hli : ¬ (a : Int) < (b : Int) := by omega
                have HF : Hid (ltB X.data.toList Y.data.toList = false) := by show _ = _; rw [HLT.out, decide_eq_false hl]
                clear HST hab hl
                go_wp2_with fail
                go_quiet (fail)
                have HBN := Lib.hid (HBW.out.trans ((below_drewN wr nq).mono HBW.out.size))
                generalize wr.drewN nq = w3 at *
                go_wp2_with fail
                go_quiet (fail)
                have HBM := Lib.hid (HBN.out.trans ((below_drewN w3 nq).mono HBN.out.size))
                generalize w3.drewN nq = w4 at *
                go_wp2_with fail
                (try simp only [Exit.inBlock, Exit.then])
                go_ret
                exact ⟨by first | (rw [HF.out]; rfl) | (rw [HLT.out]; rfl), HBM.out⟩
          · have hyi : ¬ (m : Int) < (Y.size : Int) := by omega
            have hsz : ¬ (X.size : Int) < (Y.size : Int) := by omega
            have HF : Hid (ltB X.data.toList Y.data.toList = false) := by
              show _ = _
              unfold ltB
              rw [HCB.out, cmp_end X Y m (by omega) (by omega) (by omega)]
              exact decide_eq_false (by omega)
            clear hx hy hmx hmy
            go_wp2_with fail
            go_ret
            exact ⟨by rw [HF.out]; rfl, HBW.out⟩
        · have hxi : ¬ (m : Int) < (X.size : Int) := by omega
          have HE : Hid (ltB X.data.toList Y.data.toList = decide (X.size < Y.size)) := by
            show _ = _
            unfold ltB
            rw [HCB.out, cmp_end X Y m (by omega) (by omega) (by omega)]
          by_cases hl : X.size < Y.size
          · have hsz : (X.size : Int) < (Y.size : Int) := by omega
            have HF : Hid (ltB X.data.toList Y.data.toList = true) := by show _ = _; rw [HE.out, decide_eq_true hl]
            clear hx hmx hmy hl HE
            go_wp2_with fail
            go_ret
            exact ⟨by rw [HF.out]; rfl, HBW.out⟩
          · have hsz : ¬ (X.size : Int) < (Y.size : Int) := by omega
            have HF : Hid (ltB X.data.toList Y.data.toList = false) := by show _ = _; rw [HE.out, decide_eq_false hl]
            clear hx hmx hmy hl HE
            go_wp2_with fail
            go_ret
            exact ⟨by rw [HF.out]; rfl, HBW.out⟩
  · by_cases hky : ky = 16384
    · subst hky
      obtain rfl : X = px := by rw [HKX.out, if_neg hkx]
      obtain rfl : Y = qy := by rw [HKY.out, if_pos rfl]
      have hkxb : (kx == 16384) = false := beq_eq_false_iff_ne.2 hkx
      clear HKX HKY
      go_enter Tryd.func8, Tryd.ntmps8
      go_wp2_with fail
      rw [HW0.out]
      go_quiet (fail)
      have HB1 := Lib.hid (HB0.out.trans ((below_drewN w0 nq).mono HB0.out.size))
      have hd0 := (below_drewN w0 nq)
      have hx0 := (hd0.cell (p := ⟨w.heap.size, 0, none⟩) HSX.out).trans hx0
      have hy0 := (hd0.cell (p := ⟨w.heap.size + 1, 0, none⟩) HSY.out).trans hy0
      clear hd0
      generalize w0.drewN nq = w1 at *
      go_wp2_with fail
      clear hx0 hx1 hy0 hy1 hax hay
      go_loopw [7] (fun i wr => ∃ m : Nat, m ≤ X.size ∧ m ≤ Y.size ∧ i = .int .i64 (m : Int) ∧ Lib.compareBytes X.data.toList Y.data.toList = Lib.compareBytes (X.data.toList.drop m) (Y.data.toList.drop m) ∧ Below w.heap.size w wr) (fun i _ => X.size - (intOf i).toNat)
      case atStart => exact ⟨0, Nat.zero_le _, Nat.zero_le _, rfl, rfl, HB1.out⟩
      case round =>
        obtain ⟨m, hmx, hmy, rfl, hcb, hb⟩ := hrel
        have HCB := Lib.hid hcb
        have HBW := Lib.hid hb
        have WM := Lib.hid (next_int m (by have := HXS.out; omega))
        clear hcb hb
        by_cases hx : m < X.size
        · have hxi : (m : Int) < (X.size : Int) := by omega
          by_cases hy : m < Y.size
          · have hyi : (m : Int) < (Y.size : Int) := by omega
            have hix := fun W => index_text X m hx (m : Int) rfl W
            have hiy := fun W => index_text Y m hy (m : Int) rfl W
            have HST := Lib.hid (cmp_step X Y m hx hy)
            have HMX := Lib.hid hx
            have HMY := Lib.hid hy
            generalize at8 X m = a at *
            generalize at8 Y m = b at *
            clear hmx hmy hx hy
            by_cases hab : a = b
            · subst hab
              have HS2 : Hid (Lib.compareBytes X.data.toList Y.data.toList = Lib.compareBytes (X.data.toList.drop (m + 1)) (Y.data.toList.drop (m + 1))) := by show _ = _; rw [HCB.out]; exact HST.out.1 rfl
              clear HST
              go_wp2_with fail
              go_quiet (fail)
              have HBN := Lib.hid (HBW.out.trans ((below_drewN wr nq).mono HBW.out.size))
              generalize wr.drewN nq = w3 at *
              go_wp2_with fail
              exact ⟨⟨m + 1, HMX.out, HMY.out, by first | rw [WM.out _ rfl] | rfl, HS2.out, HBN.out⟩, by have := HMX.out; (first | rw [WM.out _ rfl] | skip); simp [intOf]; omega⟩
            · have habi : ¬ (a : Int) = (b : Int) := by omega
              have habb : ((a : Int) != (b : Int)) = true := by simp; omega
              have HLT : Hid (ltB X.data.toList Y.data.toList = decide (a < b)) := by show _ = _; unfold ltB; rw [HCB.out]; exact HST.out.2 hab
              by_cases hl : a < b
              · have hli : (a : Int) < (b : Int) := by omega
                have HF : Hid (ltB X.data.toList Y.data.toList = true) := by show _ = _; rw [HLT.out, decide_eq_true hl]
                clear HST hab hl
                go_wp2_with fail
                go_quiet (fail)
                have HBN := Lib.hid (HBW.out.trans ((below_drewN wr nq).mono HBW.out.size))
                generalize wr.drewN nq = w3 at *
                go_wp2_with fail
                go_quiet (fail)
                have HBM := Lib.hid (HBN.out.trans ((below_drewN w3 nq).mono HBN.out.size))
                generalize w3.drewN nq = w4 at *
                go_wp2_with fail
                (try simp only [Exit.inBlock, Exit.then])
                go_ret
                exact ⟨by first | (rw [HF.out]; rfl) | (rw [HLT.out]; rfl), HBM.out⟩
              · have hli : ¬ (a : Int) < (b : Int) := by omega
                have HF : Hid (ltB X.data.toList Y.data.toList = false) := by show _ = _; rw [HLT.out, decide_eq_false hl]
                clear HST hab hl
                go_wp2_with fail
                go_quiet (fail)
                have HBN := Lib.hid (HBW.out.trans ((below_drewN wr nq).mono HBW.out.size))
                generalize wr.drewN nq = w3 at *
                go_wp2_with fail
                go_quiet (fail)
                have HBM := Lib.hid (HBN.out.trans ((below_drewN w3 nq).mono HBN.out.size))
                generalize w3.drewN nq = w4 at *
                go_wp2_with fail
                (try simp only [Exit.inBlock, Exit.then])
                go_ret
                exact ⟨by first | (rw [HF.out]; rfl) | (rw [HLT.out]; rfl), HBM.out⟩
          · have hyi : ¬ (m : Int) < (Y.size : Int) := by omega
            have hsz : ¬ (X.size : Int) < (Y.size : Int) := by omega
            have HF : Hid (ltB X.data.toList Y.data.toList = false) := by
              show _ = _
              unfold ltB
              rw [HCB.out, cmp_end X Y m (by omega) (by omega) (by omega)]
              exact decide_eq_false (by omega)
            clear hx hy hmx hmy
            go_wp2_with fail
            go_ret
            exact ⟨by rw [HF.out]; rfl, HBW.out⟩
        · have hxi : ¬ (m : Int) < (X.size : Int) := by omega
          have HE : Hid (ltB X.data.toList Y.data.toList = decide (X.size < Y.size)) := by
            show _ = _
            unfold ltB
            rw [HCB.out, cmp_end X Y m (by omega) (by omega) (by omega)]
          by_cases hl : X.size < Y.size
          · have hsz : (X.size : Int) < (Y.size : Int) := by omega
            have HF : Hid (ltB X.data.toList Y.data.toList = true) := by show _ = _; rw [HE.out, decide_eq_true hl]
            clear hx hmx hmy hl HE
            go_wp2_with fail
            go_ret
            exact ⟨by rw [HF.out]; rfl, HBW.out⟩
          · have hsz : ¬ (X.size : Int) < (Y.size : Int) := by omega
            have HF : Hid (ltB X.data.toList Y.data.toList = false) := by show _ = _; rw [HE.out, decide_eq_false hl]
            clear hx hmx hmy hl HE
            go_wp2_with fail
            go_ret
            exact ⟨by rw [HF.out]; rfl, HBW.out⟩
    · obtain rfl : X = px := by rw [HKX.out, if_neg hkx]
      obtain rfl : Y = py := by rw [HKY.out, if_neg hky]
      have hkxb : (kx == 16384) = false := beq_eq_false_iff_ne.2 hkx
      have hkyb : (ky == 16384) = false := beq_eq_false_iff_ne.2 hky
      clear HKX HKY
      go_enter Tryd.func8, Tryd.ntmps8
      go_wp2_with fail
      rw [HW0.out]
      go_quiet (fail)
      have HB1 := Lib.hid (HB0.out.trans ((below_drewN w0 nq).mono HB0.out.size))
      have hd0 := (below_drewN w0 nq)
      have hx0 := (hd0.cell (p := ⟨w.heap.size, 0, none⟩) HSX.out).trans hx0
      have hy0 := (hd0.cell (p := ⟨w.heap.size + 1, 0, none⟩) HSY.out).trans hy0
      clear hd0
      generalize w0.drewN nq = w1 at *
      go_wp2_with fail
      clear hx0 hx1 hy0 hy1 hax hay
      go_loopw [7] (fun i wr => ∃ m : Nat, m ≤ X.size ∧ m ≤ Y.size ∧ i = .int .i64 (m : Int) ∧ Lib.compareBytes X.data.toList Y.data.toList = Lib.compareBytes (X.data.toList.drop m) (Y.data.toList.drop m) ∧ Below w.heap.size w wr) (fun i _ => X.size - (intOf i).toNat)
      case atStart => exact ⟨0, Nat.zero_le _, Nat.zero_le _, rfl, rfl, HB1.out⟩
      case round =>
        obtain ⟨m, hmx, hmy, rfl, hcb, hb⟩ := hrel
        have HCB := Lib.hid hcb
        have HBW := Lib.hid hb
        have WM := Lib.hid (next_int m (by have := HXS.out; omega))
        clear hcb hb
        by_cases hx : m < X.size
        · have hxi : (m : Int) < (X.size : Int) := by omega
          by_cases hy : m < Y.size
          · have hyi : (m : Int) < (Y.size : Int) := by omega
            have hix := fun W => index_text X m hx (m : Int) rfl W
            have hiy := fun W => index_text Y m hy (m : Int) rfl W
            have HST := Lib.hid (cmp_step X Y m hx hy)
            have HMX := Lib.hid hx
            have HMY := Lib.hid hy
            generalize at8 X m = a at *
            generalize at8 Y m = b at *
            clear hmx hmy hx hy
            by_cases hab : a = b
            · subst hab
              have HS2 : Hid (Lib.compareBytes X.data.toList Y.data.toList = Lib.compareBytes (X.data.toList.drop (m + 1)) (Y.data.toList.drop (m + 1))) := by show _ = _; rw [HCB.out]; exact HST.out.1 rfl
              clear HST
              go_wp2_with fail
              go_quiet (fail)
              have HBN := Lib.hid (HBW.out.trans ((below_drewN wr nq).mono HBW.out.size))
              generalize wr.drewN nq = w3 at *
              go_wp2_with fail
              exact ⟨⟨m + 1, HMX.out, HMY.out, by first | rw [WM.out _ rfl] | rfl, HS2.out, HBN.out⟩, by have := HMX.out; (first | rw [WM.out _ rfl] | skip); simp [intOf]; omega⟩
            · have habi : ¬ (a : Int) = (b : Int) := by omega
              have habb : ((a : Int) != (b : Int)) = true := by simp; omega
              have HLT : Hid (ltB X.data.toList Y.data.toList = decide (a < b)) := by show _ = _; unfold ltB; rw [HCB.out]; exact HST.out.2 hab
              by_cases hl : a < b
              · have hli : (a : Int) < (b : Int) := by omega
                have HF : Hid (ltB X.data.toList Y.data.toList = true) := by show _ = _; rw [HLT.out, decide_eq_true hl]
                clear HST hab hl
                go_wp2_with fail
                go_quiet (fail)
                have HBN := Lib.hid (HBW.out.trans ((below_drewN wr nq).mono HBW.out.size))
                generalize wr.drewN nq = w3 at *
                go_wp2_with fail
                go_quiet (fail)
                have HBM := Lib.hid (HBN.out.trans ((below_drewN w3 nq).mono HBN.out.size))
                generalize w3.drewN nq = w4 at *
                go_wp2_with fail
                (try simp only [Exit.inBlock, Exit.then])
                go_ret
                exact ⟨by first | (rw [HF.out]; rfl) | (rw [HLT.out]; rfl), HBM.out⟩
              · have hli : ¬ (a : Int) < (b : Int) := by omega
                have HF : Hid (ltB X.data.toList Y.data.toList = false) := by show _ = _; rw [HLT.out, decide_eq_false hl]
                clear HST hab hl
                go_wp2_with fail
                go_quiet (fail)
                have HBN := Lib.hid (HBW.out.trans ((below_drewN wr nq).mono HBW.out.size))
                generalize wr.drewN nq = w3 at *
                go_wp2_with fail
                go_quiet (fail)
                have HBM := Lib.hid (HBN.out.trans ((below_drewN w3 nq).mono HBN.out.size))
                generalize w3.drewN nq = w4 at *
                go_wp2_with fail
                (try simp only [Exit.inBlock, Exit.then])
                go_ret
                exact ⟨by first | (rw [HF.out]; rfl) | (rw [HLT.out]; rfl), HBM.out⟩
          · have hyi : ¬ (m : Int) < (Y.size : Int) := by omega
            have hsz : ¬ (X.size : Int) < (Y.size : Int) := by omega
            have HF : Hid (ltB X.data.toList Y.data.toList = false) := by
              show _ = _
              unfold ltB
              rw [HCB.out, cmp_end X Y m (by omega) (by omega) (by omega)]
              exact decide_eq_false (by omega)
            clear hx hy hmx hmy
            go_wp2_with fail
            go_ret
            exact ⟨by rw [HF.out]; rfl, HBW.out⟩
        · have hxi : ¬ (m : Int) < (X.size : Int) := by omega
          have HE : Hid (ltB X.data.toList Y.data.toList = decide (X.size < Y.size)) := by
            show _ = _
            unfold ltB
            rw [HCB.out, cmp_end X Y m (by omega) (by omega) (by omega)]
          by_cases hl : X.size < Y.size
          · have hsz : (X.size : Int) < (Y.size : Int) := by omega
            have HF : Hid (ltB X.data.toList Y.data.toList = true) := by show _ = _; rw [HE.out, decide_eq_true hl]
            clear hx hmx hmy hl HE
            go_wp2_with fail
            go_ret
            exact ⟨by rw [HF.out]; rfl, HBW.out⟩
          · have hsz : ¬ (X.size : Int) < (Y.size : Int) := by omega
            have HF : Hid (ltB X.data.toList Y.data.toList = false) := by show _ = _; rw [HE.out, decide_eq_false hl]
            clear hx hmx hmy hl HE
            go_wp2_with fail
            go_ret
            exact ⟨by rw [HF.out]; rfl, HBW.out⟩
end Go.Proofs.YthemolkmciofaaaDoor
