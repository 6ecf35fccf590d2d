/- trans.words: the walk. -/
import Derived.Test.YtkpiinjhcckhfaaGreatDoorTrExts
import Derived.Test.YtkpiinjhcckhfaaGreatDoorChPrint
import Derived.Test.YtkpiinjhcckhfaaGreatDoorCoPrint
namespace Go.Proofs.YtkpiinjhcckhfaaGreatDoor
open Go.RowKit Plain Go.ChangeShapes Go.WideShapes Go.ChangeAt Go.Great
set_option linter.unusedVariables false
set_option linter.unusedSimpArgs false
/-- The cells of a change behind its id. -/
structure ChCells (W : World) (b : Nat) (x : CX) (xv fv : Value) : Prop where
  u : W.cell? ⟨b, 20, none⟩ = some (.string x.u)
  t : W.cell? ⟨b, 21, none⟩ = some (.int .i64 x.t)
  z : W.cell? ⟨b, 22, none⟩ = some (.int .i64 x.z)
  xs : W.cell? ⟨b, 23, none⟩ = some (xv)
  fs : W.cell? ⟨b, 24, none⟩ = some (fv)
  d : W.cell? ⟨b, 25, none⟩ = some (.string x.d)
theorem ChCells.of {W : World} {b : Nat} {x : CX} {xv fv : Value} {t : TypeId} {fr : Nat × Nat} (h : W.heap[b]? = some (.cells (chA x xv fv) t fr)) (h20 : x.n.length = 20) : ChCells W b x xv fv := by
  have key : ∀ (i : Nat) (v : Value), ([.string x.u, .int .i64 x.t, .int .i64 x.z, xv, fv, .string x.d] : List Value)[i]? = some v → W.cell? ⟨b, 20 + i, none⟩ = some v := fun i v hv => by
    rw [cell_of_row _ _ _ _ _ _ h, ← hv]
    unfold chA chL
    rw [List.getElem?_toArray, List.getElem?_append_right (by rw [U8_length, h20]; omega), U8_length, h20, show 20 + i - 20 = i by omega]
  exact ⟨key 0 _ rfl, key 1 _ rfl, key 2 _ rfl, key 3 _ rfl, key 4 _ rfl, key 5 _ rfl⟩
theorem exsT_tiny {xs : List (ByteArray × ByteArray)} (h : ∀ e ∈ xs, e.1.size ≤ 18001 ∧ e.2.size ≤ 18001) (hn : xs.length ≤ 18001) : (exsT xs).length ≤ 1000000000 := by
  have h2 : (exsT xs).length ≤ xs.length * 54005 := flat_le' (fun x => extT x ++ [10]) 54005 xs fun x hx => by
    obtain ⟨k1, k2⟩ := h x hx
    have k3 : ∀ l : List UInt8, (nlB l).length ≤ 2 * l.length := fun l => by
      induction l with
      | nil => exact Nat.le_refl _
      | cons c r ih =>
        unfold nlB
        split
        · simp only [List.length_cons]; omega
        · simp only [List.length_cons]; omega
    have k3 := k3 x.2.data.toList
    rw [Lib.size_eq] at k1 k2
    unfold extT
    rw [rep_nlB]
    simp only [List.length_append, List.length_cons, List.length_nil]
    omega
  have h3 : xs.length * 54005 ≤ 18001 * 54005 := Nat.mul_le_mul_right _ hn
  omega
set_option maxRecDepth 100000 in
set_option maxHeartbeats 32000000 in
theorem words_any (x : CX) (xa : Option Addr) (xc : Nat) (fv : Value) (w : World) (h20 : x.n.length = 20) (hx : RowAt 2 extE w xa x.xs) (hs : ChTiny x) (hE : EnvC w) :
    Calls Tryz.prog 65 #[.agg (chA x (.slice xa x.xs.length xc) fv)] w fun e w' => e = .returned (.string (txt (wordsL x))) ∧ Below w.heap.size w w' := by
  have HSM := Lib.hid hs
  have HE := Lib.hid hE
  have HX := Lib.hid hx
  obtain ⟨n, hN⟩ : ∃ n, x.xs.length = n := ⟨_, rfl⟩
  have HN := Lib.hid hN
  have HNB : Hid (n ≤ 18001) := by rw [← hN]; exact hs.2.2.1
  rw [hN]
  obtain ⟨xv, hxv⟩ : ∃ v, Value.slice xa n xc = v := ⟨_, rfl⟩
  have HXV := Lib.hid hxv
  rw [hxv]
  have HTI1 := Lib.hid hs.2.2.2.2.2.2.1
  have HTI2 := Lib.hid hs.2.2.2.2.2.2.2
  obtain ⟨T1, hT1⟩ : ∃ T, x.u.data.toList ++ [10] = T := ⟨_, rfl⟩
  obtain ⟨T2, hT2⟩ : ∃ T, T1 ++ Lib.itoa x.t = T := ⟨_, rfl⟩
  obtain ⟨T3, hT3⟩ : ∃ T, T2 ++ [32] = T := ⟨_, rfl⟩
  obtain ⟨T4, hT4⟩ : ∃ T, T3 ++ Lib.itoa x.z = T := ⟨_, rfl⟩
  obtain ⟨T5, hT5⟩ : ∃ T, T4 ++ [10] = T := ⟨_, rfl⟩
  have l0 := itoa_len x.t HTI1.out
  have l9 := itoa_len x.z HTI2.out
  have lu : x.u.data.toList.length ≤ 18001 := by rw [← Lib.size_eq]; exact hs.1
  have l1 : T1.length ≤ 18002 := by rw [← hT1, List.length_append]; simp only [List.length_cons, List.length_nil]; omega
  have l2 : T2.length ≤ 18023 := by rw [← hT2, List.length_append]; omega
  have l3 : T3.length ≤ 18024 := by rw [← hT3, List.length_append]; simp only [List.length_cons, List.length_nil]; omega
  have l4 : T4.length ≤ 18045 := by rw [← hT4, List.length_append]; omega
  have l5 : T5.length ≤ 18046 := by rw [← hT5, List.length_append]; simp only [List.length_cons, List.length_nil]; omega
  have HT5L := Lib.hid l5
  have HA1 : Hid (∀ W, (binOp .add 9 (.string x.u) (.string ⟨#[10]⟩)).run Tryz.prog W = .ok (.string (txt T1)) W) := fun W => add_txt _ _ _ hT1 (by rw [Lib.size_eq]; show _ + 1 ≤ _; omega) W
  have HA2 : Hid (∀ W, (binOp .add 9 (.string (txt T1)) (.string (txt (Lib.itoa x.t)))).run Tryz.prog W = .ok (.string (txt T2)) W) := fun W => add_txt _ _ _ (by rw [txt_list, txt_list]; exact hT2) (by rw [txt_size, txt_size]; omega) W
  have HA3 : Hid (∀ W, (binOp .add 9 (.string (txt T2)) (.string ⟨#[32]⟩)).run Tryz.prog W = .ok (.string (txt T3)) W) := fun W => add_txt _ _ _ (by rw [txt_list]; exact hT3) (by rw [txt_size]; show _ + 1 ≤ _; omega) W
  have HA4 : Hid (∀ W, (binOp .add 9 (.string (txt T3)) (.string (txt (Lib.itoa x.z)))).run Tryz.prog W = .ok (.string (txt T4)) W) := fun W => add_txt _ _ _ (by rw [txt_list, txt_list]; exact hT4) (by rw [txt_size, txt_size]; omega) W
  have HA5 : Hid (∀ W, (binOp .add 9 (.string (txt T4)) (.string ⟨#[10]⟩)).run Tryz.prog W = .ok (.string (txt T5)) W) := fun W => add_txt _ _ _ (by rw [txt_list]; exact hT5) (by rw [txt_size]; show _ + 1 ≤ _; omega) W
  have HWL : Hid (wordsL x = T5 ++ exsT x.xs) := by
    show _ = _
    unfold wordsL
    rw [← hT5, ← hT4, ← hT3, ← hT2, ← hT1]
    simp only [List.append_assoc, List.cons_append, List.nil_append]
  have HB0 : Hid (Below w.heap.size w (w.alloc (.cells (chA x xv fv) 40))) := (Below.refl _ _).alloc (Nat.le_refl _) _
  have HH0 : Hid ((w.alloc (.cells (chA x xv fv) 40)).heap[w.heap.size]? = some (.cells (chA x xv fv) 40 (0, 0))) := heap_alloc_new _ _
  clear hs hE hx hN hT1 hT2 hT3 hT4 hT5 l0 l9 lu l1 l2 l3 l4 l5
  go_enter Tryz.func65, Tryz.ntmps65
  go_wp2_with fail
  obtain ⟨w0, hw0⟩ : ∃ X, w.alloc (.cells (chA x xv fv) 40) = X := ⟨_, rfl⟩
  rw [hw0] at HB0 HH0 ⊢
  obtain ⟨p0, hp0⟩ : ∃ p, w.heap.size = p := ⟨_, rfl⟩
  rw [hp0] at HH0
  have hs0 : w0.heap.size = p0 + 1 := by rw [← hw0, ← hp0]; simp
  (try simp only [hs0])
  (try simp only [hp0])
  obtain ⟨p1, hp1⟩ : ∃ p, p0 + 1 = p := ⟨_, rfl⟩
  rw [hp1] at hs0
  simp only [hp1]
  have HP1 : Hid (w0.heap.size = p1) := hs0
  have HPP : Hid (p0 + 1 = p1) := hp1
  have HP0 : Hid (w.heap.size = p0) := hp0
  clear hw0 hp0 hs0 hp1
  have HCX : Hid (∀ W, Below p1 w0 W → ChCells W p0 x xv fv) := fun W hW => ChCells.of ((hW.block p0 (by have := HPP.out; omega)).trans HH0.out) h20
  have HENV : Hid (∀ W, Below p1 w0 W → EnvC W) := fun W hW => HE.out.below (HB0.out.trans (hW.mono (by have := HPP.out; have := HP0.out; omega)))
  have HWW : Hid (∀ W, Below p1 w0 W → Below w.heap.size w W) := fun W hW => HB0.out.trans (hW.mono (by have := HPP.out; have := HP0.out; omega))
  have HPL : Hid (∀ W, Below p1 w0 W → p1 ≤ W.heap.size) := fun W hW => by have := hW.size; have := HP1.out; omega
  have HB1 : Hid (Below p1 w0 (w0.alloc (.cells #[.pointer none, .slice none 0 0] 95))) := by rw [← HP1.out]; exact (Below.refl _ _).alloc (Nat.le_refl _) _
  have HZB : Hid ((w0.alloc (.cells #[.pointer none, .slice none 0 0] 95)).heap[p1]? = some (.cells #[.pointer none, .slice none 0 0] 95 (0, 0))) := by rw [← HP1.out]; exact heap_alloc_new _ _
  have HUB : Hid (Lib.IsBuilder 95 5 p1 p1 (Lib.byteCells []) (w0.alloc (.cells #[.pointer none, .slice none 0 0] 95))) := .inl ⟨Nat.le_refl _, _, HZB.out, World.ownsRow_nil _ _ _ _, by simp [Value.ownBlock]⟩
  clear HZB
  obtain ⟨w1, hw1⟩ : ∃ X, w0.alloc (.cells #[.pointer none, .slice none 0 0] 95) = X := ⟨_, rfl⟩
  rw [hw1] at HB1 HUB ⊢
  clear hw1
  have HBD : Hid (Below p1 w0 w1.drew) := HB1.out.drew
  have HUD : Hid (Lib.IsBuilder 95 5 p1 p1 (Lib.byteCells []) w1.drew) := HUB.out.belowB ((Below.refl _ _).drew)
  go_wp2_with fail
  refine wp_region_noPanic ?_
  refine wp_region_held_drew (S := fun W => Below p1 w0 W) (by kernel_rfl) ?_ (fun hHeld => ?_)
  · exact HBD.out
  refine tkV 0 (v := ?_) (hw := ?_) (h := ?_)
  rotate_left
  · intro W hSW
    go_simp
    try with_reducible rfl
  try simp only [Act.put, List.setIfInBounds_toArray, List.set_cons_zero, List.set_cons_succ]
  refine tkY 1 (hy := (yieldsIf_load_str (by rfl) 9 _ rfl p0 20 rfl x.u (fun W hSW => (HCX.out W hSW).u) Tryz.underlying9)) (h := ?_)
  try simp only [Act.put, List.setIfInBounds_toArray, List.set_cons_zero, List.set_cons_succ]
  refine tkY 2 (hy := (yieldsIf_eql (by rfl) .add 9 _ _ _ rfl (.string x.u) (.string ⟨#[10]⟩) rfl rfl (.string (txt T1)) (guard_addn _ _ _ _) HA1.out)) (h := ?_)
  try simp only [Act.put, List.setIfInBounds_toArray, List.set_cons_zero, List.set_cons_succ]
  refine tkV 3 (v := ?_) (hw := ?_) (h := ?_)
  rotate_left
  · intro W hSW
    go_simp
    try with_reducible rfl
  try simp only [Act.put, List.setIfInBounds_toArray, List.set_cons_zero, List.set_cons_succ]
  refine tkY 4 (hy := (yieldsIf_load_int (by rfl) 3 _ rfl p0 21 rfl x.t (fun W hSW => (HCX.out W hSW).t) Tryz.underlying3)) (h := ?_)
  try simp only [Act.put, List.setIfInBounds_toArray, List.set_cons_zero, List.set_cons_succ]
  refine tkV 8 (v := ?_) (hw := ?_) (h := ?_)
  rotate_left
  · intro W hSW
    go_simp
    try with_reducible rfl
  try simp only [Act.put, List.setIfInBounds_toArray, List.set_cons_zero, List.set_cons_succ]
  refine tkY 9 (hy := (yieldsIf_load_int (by rfl) 3 _ rfl p0 22 rfl x.z (fun W hSW => (HCX.out W hSW).z) Tryz.underlying3)) (h := ?_)
  try simp only [Act.put, List.setIfInBounds_toArray, List.set_cons_zero, List.set_cons_succ]
  refine wpAnyH_ready (rs := [5]) (by kernel_rfl) (by simp) ?_
  refine AllReadyH.cons (by simp only [List.getElem?_toArray, List.getElem?_cons_succ, List.getElem?_cons_zero]; rfl) (fun K hK => ?_) AllReadyH.nil
  go_simp
  refine (decz_any x.t HTI1.out.1 HTI1.out.2 _ (HENV.out _ HBD.out).tab).mono ?_
  rintro e v1 ⟨rfl, hb⟩
  have HV1 : Hid (Below p1 w0 v1) := HBD.out.trans (hb.mono (HPL.out _ HBD.out))
  have HU1 : Hid (Lib.IsBuilder 95 5 p1 p1 (Lib.byteCells []) v1) := HUD.out.belowB hb
  clear hb
  go_wp2_with fail
  refine hK.out _ _ (HV1.out) (fun hHeld2 => ?_)
  clear hK K hHeld
  have hHeld := hHeld2
  clear hHeld2
  try simp only [Act.put, List.setIfInBounds_toArray, List.set_cons_zero, List.set_cons_succ]
  refine tkY 6 (hy := (yieldsIf_eql (by rfl) .add 9 _ _ _ rfl (.string (txt T1)) (.string (txt (Lib.itoa x.t))) rfl rfl (.string (txt T2)) (guard_addn _ _ _ _) HA2.out)) (h := ?_)
  try simp only [Act.put, List.setIfInBounds_toArray, List.set_cons_zero, List.set_cons_succ]
  refine tkY 7 (hy := (yieldsIf_eql (by rfl) .add 9 _ _ _ rfl (.string (txt T2)) (.string ⟨#[32]⟩) rfl rfl (.string (txt T3)) (guard_addn _ _ _ _) HA3.out)) (h := ?_)
  try simp only [Act.put, List.setIfInBounds_toArray, List.set_cons_zero, List.set_cons_succ]
  refine wpAnyH_ready (rs := [10]) (by kernel_rfl) (by simp) ?_
  refine AllReadyH.cons (by simp only [List.getElem?_toArray, List.getElem?_cons_succ, List.getElem?_cons_zero]; rfl) (fun K hK => ?_) AllReadyH.nil
  go_simp
  refine (decz_any x.z HTI2.out.1 HTI2.out.2 _ (HENV.out _ HV1.out).tab).mono ?_
  rintro e v2 ⟨rfl, hb⟩
  have HV2 : Hid (Below p1 w0 v2) := HV1.out.trans (hb.mono (HPL.out _ HV1.out))
  have HU2 : Hid (Lib.IsBuilder 95 5 p1 p1 (Lib.byteCells []) v2) := HU1.out.belowB hb
  clear hb
  go_wp2_with fail
  refine hK.out _ _ (HV2.out) (fun hHeld2 => ?_)
  clear hK K hHeld
  have hHeld := hHeld2
  clear hHeld2
  try simp only [Act.put, List.setIfInBounds_toArray, List.set_cons_zero, List.set_cons_succ]
  refine tkY 11 (hy := (yieldsIf_eql (by rfl) .add 9 _ _ _ rfl (.string (txt T3)) (.string (txt (Lib.itoa x.z))) rfl rfl (.string (txt T4)) (guard_addn _ _ _ _) HA4.out)) (h := ?_)
  try simp only [Act.put, List.setIfInBounds_toArray, List.set_cons_zero, List.set_cons_succ]
  refine tkY 12 (hy := (yieldsIf_eql (by rfl) .add 9 _ _ _ rfl (.string (txt T4)) (.string ⟨#[10]⟩) rfl rfl (.string (txt T5)) (guard_addn _ _ _ _) HA5.out)) (h := ?_)
  try simp only [Act.put, List.setIfInBounds_toArray, List.set_cons_zero, List.set_cons_succ]
  refine wpAnyH_ready (rs := [13]) (by kernel_rfl) (by simp) ?_
  refine AllReadyH.cons (by simp only [List.getElem?_toArray, List.getElem?_cons_succ, List.getElem?_cons_zero]; rfl) (fun K hK => ?_) AllReadyH.nil
  go_simp
  refine (writeStr_k p1 p1 [] (txt T5) _ HU2.out (by rw [txt_size]; have := HT5L.out; simp only [List.length_nil]; omega) (Nat.le_of_lt HU2.out.lt)).mono ?_
  rintro e v3 ⟨rfl, ⟨hu, hb⟩, -⟩
  have HV3 : Hid (Below p1 w0 v3) := HV2.out.trans hb
  have HU3 : Hid (Lib.IsBuilder 95 5 p1 p1 (Lib.byteCells T5) v3) := by rw [List.nil_append, txt_list] at hu; exact .inr hu
  clear hb hu
  go_wp2_with fail
  refine hK.out _ _ (HV3.out) (fun hHeld2 => ?_)
  clear hK K hHeld
  have hHeld := hHeld2
  clear hHeld2
  try simp only [Act.put, List.setIfInBounds_toArray, List.set_cons_zero, List.set_cons_succ]
  refine wpAnyH_done (by kernel_rfl) ?_ _
  refine NoPanic.normal ?_
  clear hHeld
  have hxv := HXV.out
  clear HXV
  subst hxv
  have hxc := (HCX.out v3 HV3.out).xs
  have HU3 : Hid (Lib.IsBuilder 95 5 p1 p1 (Lib.byteCells (T5 ++ exsT (x.xs.take 0))) v3) := by
    show Lib.IsBuilder _ _ _ _ _ _
    rw [List.take_zero]
    show Lib.IsBuilder _ _ _ _ (Lib.byteCells (T5 ++ [])) _
    rw [List.append_nil]
    exact HU3.out
  go_wp2_with fail
  clear hxc
  go_loopw [23] (fun i wr => ∃ k : Nat, k ≤ n ∧ i = .int .i64 (k : Int) ∧ Lib.IsBuilder 95 5 p1 p1 (Lib.byteCells (T5 ++ exsT (x.xs.take k))) wr ∧ Below p1 w0 wr) (fun i _ => n - (intOf i).toNat)
  case atStart => exact ⟨0, Nat.zero_le _, rfl, HU3.out, HV3.out⟩
  case round =>
    obtain ⟨k, hk, rfl, hu, hb⟩ := hrel
    have HUW := Lib.hid hu
    have HBW := Lib.hid hb
    have WK := Lib.hid (next_int k (by have := HNB.out; omega))
    clear hu hb
    by_cases hkn : k < n
    · have hki : (k : Int) < (n : Int) := by omega
      have HKN := Lib.hid hkn
      rcases HX.out with h0 | ⟨b, off, rfl, hbl, hc⟩
      · rw [HN.out] at h0; omega
      obtain ⟨e1, hp⟩ : ∃ e, x.xs[k]? = some e := ⟨_, List.getElem?_eq_getElem (by rw [HN.out]; exact hkn)⟩
      have HXS := Lib.hid (HSM.out.2.2.2.2.1 e1 (List.mem_of_getElem? hp))
      have HRX : Hid (wr.rangeAt b (off + k * 2) (extE e1)) := range_below (hc k e1 hp) (HWW.out wr HBW.out) hbl
      obtain ⟨K1, hK1⟩ : ∃ T, e1.1.data.toList ++ [32] = T := ⟨_, rfl⟩
      obtain ⟨K2, hK2⟩ : ∃ T, Lib.replaceAll e1.2.data.toList [10] [10, 32] = T := ⟨_, rfl⟩
      obtain ⟨K3, hK3⟩ : ∃ T, K1 ++ K2 = T := ⟨_, rfl⟩
      obtain ⟨K4, hK4⟩ : ∃ T, K3 ++ [10] = T := ⟨_, rfl⟩
      have HTN : Hid (exsT (x.xs.take k) ++ K4 = exsT (x.xs.take (k + 1))) := by
        show _ = _
        rw [List.take_add_one, hp]
        unfold exsT
        rw [List.flatMap_append, ← hK4, ← hK3, ← hK1, ← hK2]
        simp [extT]
      have HTKL : Hid ((T5 ++ exsT (x.xs.take k)).length ≤ 2000000000) := by
        have h1 := exsT_tiny (xs := x.xs.take k) (fun e he => HSM.out.2.2.2.2.1 e (List.mem_of_mem_take he)) (by rw [List.length_take]; have := HSM.out.2.2.1; omega)
        have h2 := HT5L.out
        show _ ≤ _
        rw [List.length_append]; omega
      have lk1 : K1.length ≤ 18002 := by rw [← hK1, List.length_append, ← Lib.size_eq]; have := HXS.out.1; simp only [List.length_cons, List.length_nil]; omega
      have lk2 : K2.length ≤ 72004 := by
        rw [← hK2, rep_nlB]
        have k3 : ∀ l : List UInt8, (nlB l).length ≤ 2 * l.length := fun l => by
          induction l with
          | nil => exact Nat.le_refl _
          | cons c r ih =>
            unfold nlB
            split
            · simp only [List.length_cons]; omega
            · simp only [List.length_cons]; omega
        have := k3 e1.2.data.toList
        have := HXS.out.2
        rw [Lib.size_eq] at this
        omega
      have lk3 : K3.length ≤ 90006 := by rw [← hK3, List.length_append]; omega
      have HK4L : Hid (K4.length ≤ 90007) := by rw [← hK4]; show _ ≤ _; rw [List.length_append]; simp only [List.length_cons, List.length_nil]; omega
      have HK1 : Hid (∀ W, (binOp .add 9 (.string e1.1) (.string ⟨#[32]⟩)).run Tryz.prog W = .ok (.string (txt K1)) W) := fun W => add_txt _ _ _ hK1 (by have := HXS.out.1; show _ + 1 ≤ _; omega) W
      have HK3 : Hid (∀ W, (binOp .add 9 (.string (txt K1)) (.string (txt K2))).run Tryz.prog W = .ok (.string (txt K3)) W) := fun W => add_txt _ _ _ (by rw [txt_list, txt_list]; exact hK3) (by rw [txt_size, txt_size]; omega) W
      have HK4 : Hid (∀ W, (binOp .add 9 (.string (txt K3)) (.string ⟨#[10]⟩)).run Tryz.prog W = .ok (.string (txt K4)) W) := fun W => add_txt _ _ _ (by rw [txt_list]; exact hK4) (by rw [txt_size]; show _ + 1 ≤ _; omega) W
      have HRA : Hid (∀ W, (∃ m, W.cell? ⟨0, 0, none⟩ = some (.int .i64 m)) → Calls Tryz.prog 76 #[.string e1.2, .string ⟨#[10]⟩, .string ⟨#[10, 32]⟩] W fun e w' => e = .returned (.string (txt K2)) ∧ Below W.heap.size W w') := fun W ⟨m, hm⟩ => by
        have hz := HXS.out.2
        have h := Tryz.strings_ReplaceAll e1.2 ⟨#[10]⟩ ⟨#[10, 32]⟩ m W (by omega) hm (by decide) (by
          have := Lib.countB_le (⟨#[10]⟩ : ByteArray) (by decide) _ e1.2 (Nat.le_refl _)
          show _ + _ * 2 ≤ _
          omega)
        rw [show (⟨(Lib.replaceAll e1.2.data.toList (⟨#[10]⟩ : ByteArray).data.toList (⟨#[10, 32]⟩ : ByteArray).data.toList).toArray⟩ : ByteArray) = txt K2 by rw [← hK2]; rfl] at h
        exact h
      have hze := zero_ext
      have HZX : Hid ((wr.alloc (.cells zextA 79)).heap[wr.heap.size]? = some (.cells zextA 79 (0, 0))) := heap_alloc_new _ _
      have HXA : Hid (((wr.alloc (.cells zextA 79)).setRow wr.heap.size (extE e1).toArray).heap[wr.heap.size]? = some (.cells (extE e1).toArray 79 (0, 0))) := setRow_heap _ _ _ _ _ _ HZX.out
      have HBS : Hid (Below wr.heap.size wr ((wr.alloc (.cells zextA 79)).setRow wr.heap.size (extE e1).toArray)) := below_setRow ((Below.refl _ _).alloc (Nat.le_refl _) _) (Nat.le_refl _) _
      have HBW3 : Hid (Below p1 w0 ((wr.alloc (.cells zextA 79)).setRow wr.heap.size (extE e1).toArray)) := HBW.out.trans (HBS.out.mono (Nat.le_of_lt HUW.out.lt))
      have HUW3 : Hid (Lib.IsBuilder 95 5 p1 p1 (Lib.byteCells (T5 ++ exsT (x.xs.take k))) ((wr.alloc (.cells zextA 79)).setRow wr.heap.size (extE e1).toArray)) := HUW.out.belowB HBS.out
      have HQN : Hid (wr.heap.size ≠ p1) := fun e => by have := HUW.out.lt; omega
      clear hp hbl hc hkn hk hK1 hK2 hK3 hK4 lk1 lk2 lk3
      go_wp2_with (first
        | refine wpList_load_mid rfl 79 _ rfl b (off + k * 2) rfl (extE e1) _ HRX.out Tryz.underlying79 rfl (info_ext e1) ?_
        | (refine wpList_store_row rfl 79 _ _ rfl wr.heap.size (extE e1).toArray rfl rfl 79 zextA HZX.out (info_extA e1) rfl (extA_one e1) ?_
           obtain ⟨w3, hw3⟩ : ∃ X, (wr.alloc (.cells zextA 79)).setRow wr.heap.size (extE e1).toArray = X := ⟨_, rfl⟩
           rw [hw3] at HXA HBW3 HUW3 ⊢
           obtain ⟨q, hq⟩ : ∃ q, wr.heap.size = q := ⟨_, rfl⟩
           rw [hq] at HXA HQN ⊢
           clear hw3 hq HZX HBS HRX))
      have HQL : Hid (q < w3.drew.heap.size) := (Array.getElem?_eq_some_iff.1 HXA.out).1
      have HBD3 : Hid (Below p1 w0 w3.drew) := HBW3.out.drew
      have HUD3 : Hid (Lib.IsBuilder 95 5 p1 p1 (Lib.byteCells (T5 ++ exsT (x.xs.take k))) w3.drew) := HUW3.out.belowB ((Below.refl _ _).drew)
      have HHD3 : Hid (w3.drew.heap[q]? = some (.cells (extE e1).toArray 79 (0, 0))) := HXA.out
      have HRR : Hid (∀ W : World, W.heap[q]? = some (.cells (extE e1).toArray 79 (0, 0)) → W.rangeAt q 0 (extE e1)) := fun W hW j v hv => by
        rw [cell_of_row _ _ _ _ _ _ hW, Nat.zero_add, ← hv]
        simp
      have HRD3 := Lib.hid (HRR.out _ HHD3.out)
      have HRK : Hid (∀ W W' : World, W.heap[q]? = some (.cells (extE e1).toArray 79 (0, 0)) → KeepsF p1 W W' → W'.rangeAt q 0 (extE e1)) := fun W W' hW hkp => HRR.out W' (hkp q _ _ _ HQN.out (.inl (by decide)) hW)
      refine wp_region_noPanic ?_
      refine wp_region_held_drew (S := fun W => Below p1 w0 W ∧ W.rangeAt q 0 (extE e1)) (by kernel_rfl) ?_ (fun hHeld => ?_)
      · exact ⟨HBD3.out, HRD3.out⟩
      refine tkV 0 (v := ?_) (hw := ?_) (h := ?_)
      rotate_left
      · intro W hSW
        go_simp
        try with_reducible rfl
      try simp only [Act.put, List.setIfInBounds_toArray, List.set_cons_zero, List.set_cons_succ]
      refine tkY 1 (hy := (yieldsIf_load_str (by rfl) 9 _ rfl q 0 rfl e1.1 (fun W hSW => range_key hSW.2) Tryz.underlying9)) (h := ?_)
      try simp only [Act.put, List.setIfInBounds_toArray, List.set_cons_zero, List.set_cons_succ]
      refine tkY 2 (hy := (yieldsIf_eql (by rfl) .add 9 _ _ _ rfl (.string e1.1) (.string ⟨#[32]⟩) rfl rfl (.string (txt K1)) (guard_addn _ _ _ _) HK1.out)) (h := ?_)
      try simp only [Act.put, List.setIfInBounds_toArray, List.set_cons_zero, List.set_cons_succ]
      refine tkV 3 (v := ?_) (hw := ?_) (h := ?_)
      rotate_left
      · intro W hSW
        go_simp
        try with_reducible rfl
      try simp only [Act.put, List.setIfInBounds_toArray, List.set_cons_zero, List.set_cons_succ]
      refine tkY 4 (hy := (yieldsIf_load_str (by rfl) 9 _ rfl q 1 rfl e1.2 (fun W hSW => range_val hSW.2) Tryz.underlying9)) (h := ?_)
      try simp only [Act.put, List.setIfInBounds_toArray, List.set_cons_zero, List.set_cons_succ]
      refine wpAnyH_ready (rs := [5]) (by kernel_rfl) (by simp) ?_
      refine AllReadyH.cons (by simp only [List.getElem?_toArray, List.getElem?_cons_succ, List.getElem?_cons_zero]; rfl) (fun K hK => ?_) AllReadyH.nil
      go_simp
      refine (HRA.out _ ((HENV.out _ HBD3.out).env.most)).mono ?_
      rintro e v4 ⟨rfl, hb⟩
      have HV4 : Hid (Below p1 w0 v4) := HBD3.out.trans (hb.mono (HPL.out _ HBD3.out))
      have HU4 : Hid (Lib.IsBuilder 95 5 p1 p1 (Lib.byteCells (T5 ++ exsT (x.xs.take k))) v4) := HUD3.out.belowB hb
      have HR4 : Hid (v4.rangeAt q 0 (extE e1)) := range_below HRD3.out hb HQL.out
      have HH4 : Hid (v4.heap[q]? = some (.cells (extE e1).toArray 79 (0, 0))) := (hb.block q HQL.out).trans HHD3.out
      clear hb
      go_wp2_with fail
      refine hK.out _ _ (⟨HV4.out, HR4.out⟩) (fun hHeld2 => ?_)
      clear hK K hHeld
      have hHeld := hHeld2
      clear hHeld2
      try simp only [Act.put, List.setIfInBounds_toArray, List.set_cons_zero, List.set_cons_succ]
      refine tkY 6 (hy := (yieldsIf_eql (by rfl) .add 9 _ _ _ rfl (.string (txt K1)) (.string (txt K2)) rfl rfl (.string (txt K3)) (guard_addn _ _ _ _) HK3.out)) (h := ?_)
      try simp only [Act.put, List.setIfInBounds_toArray, List.set_cons_zero, List.set_cons_succ]
      refine tkY 7 (hy := (yieldsIf_eql (by rfl) .add 9 _ _ _ rfl (.string (txt K3)) (.string ⟨#[10]⟩) rfl rfl (.string (txt K4)) (guard_addn _ _ _ _) HK4.out)) (h := ?_)
      try simp only [Act.put, List.setIfInBounds_toArray, List.set_cons_zero, List.set_cons_succ]
      refine wpAnyH_ready (rs := [8]) (by kernel_rfl) (by simp) ?_
      refine AllReadyH.cons (by simp only [List.getElem?_toArray, List.getElem?_cons_succ, List.getElem?_cons_zero]; rfl) (fun K hK => ?_) AllReadyH.nil
      go_simp
      refine (writeStr_k p1 p1 (T5 ++ exsT (x.xs.take k)) (txt K4) _ HU4.out (by rw [txt_size]; have := HK4L.out; have := HTKL.out; omega) (Nat.le_of_lt HU4.out.lt)).mono ?_
      rintro e v5 ⟨rfl, ⟨hu, hb⟩, hkp⟩
      have HV5 : Hid (Below p1 w0 v5) := HV4.out.trans hb
      have HU5 : Hid (Lib.IsBuilder 95 5 p1 p1 (Lib.byteCells (T5 ++ exsT (x.xs.take (k + 1)))) v5) := by rw [txt_list, List.append_assoc, HTN.out] at hu; exact .inr hu
      have HR5 : Hid (v5.rangeAt q 0 (extE e1)) := HRK.out v4 v5 HH4.out hkp
      clear hb hu hkp
      go_wp2_with fail
      refine hK.out _ _ (⟨HV5.out, HR5.out⟩) (fun hHeld2 => ?_)
      clear hK K hHeld
      have hHeld := hHeld2
      clear hHeld2
      try simp only [Act.put, List.setIfInBounds_toArray, List.set_cons_zero, List.set_cons_succ]
      refine wpAnyH_done (by kernel_rfl) ?_ _
      refine NoPanic.normal ?_
      clear hHeld
      go_wp2_with fail
      exact ⟨⟨k + 1, HKN.out, by first | rw [WK.out _ rfl] | rfl, HU5.out, HV5.out⟩, by have := HKN.out; (first | rw [WK.out _ rfl] | skip); simp [intOf]; omega⟩
    · have hki : ¬ (k : Int) < (n : Int) := by omega
      have HUE : Hid (Lib.IsBuilder 95 5 p1 p1 (Lib.byteCells (wordsL x)) wr) := by
        show Lib.IsBuilder _ _ _ _ _ _
        rw [HWL.out]
        have := HUW.out
        rwa [List.take_of_length_le (by rw [HN.out]; omega)] at this
      clear hkn hk
      go_wp2_with fail
      refine (Tryz.Builder_String_any p1 p1 (wordsL x) wr HUE.out (Nat.le_of_lt HUE.out.lt)).mono ?_
      rintro e w9 ⟨rfl, hb⟩
      have HB9 := Lib.hid (HWW.out w9 (HBW.out.trans hb))
      clear hb
      go_wp2_with fail
      go_ret
      exact ⟨rfl, HB9.out⟩
end Go.Proofs.YtkpiinjhcckhfaaGreatDoor
