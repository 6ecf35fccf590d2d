/- The document's Print of a commit: the walk. -/
import Derived.Test.YtindmggmblmmcaaGreatDoorCoRVal
import Derived.Test.YtindmggmblmmcaaGreatDoorRefHex
namespace Go.Proofs.YtindmggmblmmcaaGreatDoor
open Go.RowKit Plain Go.ChangeShapes Go.WideShapes Go.ChangeAt Go.Great
set_option linter.unusedVariables false
set_option linter.unusedSimpArgs false
theorem rhex_any (p : List Int) (w : World) (h20 : p.length = 20) (hb : ∀ x ∈ p, 0 ≤ x ∧ x ≤ 255) : Calls Tryz.prog 39 #[.agg (V8 p)] w fun e w' => e = .returned (.string (txt (hexOf p))) ∧ Below w.heap.size w w' := by
  have h := refHex_any p w h20 hb
  rw [hexN_text p hb] at h
  exact h
theorem flat_take {α : Type} (f : α → List UInt8) (xs : List α) (k : Nat) : ((xs.take k).flatMap f).length ≤ (xs.flatMap f).length := by
  conv => rhs; rw [← List.take_append_drop k xs]
  rw [List.flatMap_append, List.length_append]
  exact Nat.le_add_right _ _
theorem flat_snoc {α : Type} (f : α → List UInt8) {xs : List α} {k : Nat} {x : α} (h : xs[k]? = some x) : (xs.take (k + 1)).flatMap f = (xs.take k).flatMap f ++ f x := by
  rw [take_snoc h, List.flatMap_append]
  simp
theorem printC_size (c : CC) : (printC c).length = (treeT c).length + (c.ps.flatMap parT).length + (autT c).length + (comT c).length + (exsT c.xs).length + 1 + c.m.data.toList.length := by
  unfold printC frontT
  simp only [List.length_append, List.length_cons, List.length_nil]
set_option maxRecDepth 100000 in
set_option maxHeartbeats 32000000 in
theorem rprint_any (c : CC) (pa : Option Addr) (pc : Nat) (xa : Option Addr) (xc : Nat) (w : World) (hat : CoAt w c pa xa) (hE : EnvC w) (ha : WhoSmall c.a) (hc : WhoSmall c.c) (hl : (printC c).length ≤ 1000000) (hn : c.ps.length ≤ 1000000) (hm : c.xs.length ≤ 1000000) (hxs : ∀ x ∈ c.xs, x.2.size ≤ 1000000) :
    Calls Tryz.prog 13 #[.agg (coV c pa pc xa xc)] w fun e w' => e = .returned (.string (txt (printC c))) ∧ Below w.heap.size w w' := by
  have H20 := Lib.hid hat.n20
  have HBY := Lib.hid hat.byt
  have HIDS := Lib.hid hat.ids
  have HAP := Lib.hid hat.pars
  have HAX := Lib.hid hat.exts
  have HSA := Lib.hid ha
  have HSC := Lib.hid hc
  have HXS := Lib.hid hxs
  have hps := printC_size c
  have HPS : Hid ((treeT c).length + (c.ps.flatMap parT).length + (autT c).length + (comT c).length + (exsT c.xs).length + 1 + c.m.data.toList.length ≤ 1000000) := by show _ ≤ _; omega
  obtain ⟨n, hN⟩ : ∃ n, c.ps.length = n := ⟨_, rfl⟩
  obtain ⟨m, hM⟩ : ∃ n, c.xs.length = n := ⟨_, rfl⟩
  have HN := Lib.hid hN
  have HM := Lib.hid hM
  have HNB : Hid (n ≤ 1000000) := by rw [← hN]; exact hn
  have HMB : Hid (m ≤ 1000000) := by rw [← hM]; exact hm
  unfold coV
  rw [hN, hM]
  have HB0 : Hid (Below w.heap.size w (w.alloc (.cells (coA c (.slice pa n pc) (.slice xa m xc)) 28))) := (Below.refl _ _).alloc (Nat.le_refl _) _
  have HP0 : Hid ((w.alloc (.cells (coA c (.slice pa n pc) (.slice xa m xc)) 28)).heap[w.heap.size]? = some (.cells (coA c (.slice pa n pc) (.slice xa m xc)) 28 (0, 0))) := heap_alloc_new _ _
  have HRW0 := Lib.hid (CoRow.of HP0.out H20.out)
  have HHX := Lib.hid (fun W => rhex_any c.tr W H20.out HBY.out)
  obtain ⟨T1, hT1⟩ : ∃ l, [116, 114, 101, 101, 32] ++ hexOf c.tr = l := ⟨_, rfl⟩
  have hT1l : T1.length = 45 := by rw [← hT1, List.length_append, hexOf_length, H20.out]; rfl
  have HT1 : Hid (∀ W, (binOp .add 9 (.string ⟨#[116, 114, 101, 101, 32]⟩) (.string (txt (hexOf c.tr)))).run Tryz.prog W = .ok (.string (txt T1)) W) := fun W => add_txt _ _ _ (by rw [txt_list]; exact hT1) (by rw [txt_size, hexOf_length, H20.out]; decide) W
  have HT2 : Hid (∀ W, (binOp .add 9 (.string (txt T1)) (.string ⟨#[10]⟩)).run Tryz.prog W = .ok (.string (txt (treeT c))) W) := fun W => add_txt _ _ _ (by rw [txt_list, ← hT1]; rfl) (by rw [txt_size, hT1l]; decide) W
  have HEW0 := Lib.hid hE
  clear hat hE ha hc hl hn hm hxs hps hN hM hT1 hT1l
  go_enter Tryz.func13, Tryz.ntmps13
  go_wp2_with (first
    | refine wpList_load_mid rfl 22 _ rfl w.heap.size 0 rfl (U8 c.tr) _ HRW0.out.tree Tryz.underlying22 rfl (id20_info8 _ H20.out) ?_)
  refine (HHX.out _).mono ?_
  rintro e w0 ⟨rfl, hb⟩
  have HB1 := Lib.hid (HB0.out.trans (hb.mono HB0.out.size))
  have HP1 := Lib.hid ((hb.block _ (Array.getElem?_eq_some_iff.1 HP0.out).1).trans HP0.out)
  clear hb HHX HRW0 HP0 HB0
  obtain ⟨p0, hp0⟩ : ∃ p, w.heap.size = p := ⟨_, rfl⟩
  rw [hp0] at HP1 ⊢
  have HPE := Lib.hid hp0
  clear hp0
  have HCW : Hid (∀ W, Below w0.heap.size w0 W → CoRow W p0 c (.slice pa n pc) (.slice xa m xc)) := fun W hW => CoRow.of ((hW.block p0 (Array.getElem?_eq_some_iff.1 HP1.out).1).trans HP1.out) H20.out
  have HEW : Hid (∀ W, Below w0.heap.size w0 W → EnvC W) := fun W hW => HEW0.out.below (HB1.out.trans (hW.mono HB1.out.size))
  have HWW : Hid (∀ W, Below w0.heap.size w0 W → Below w.heap.size w W) := fun W hW => HB1.out.trans (hW.mono HB1.out.size)
  clear HP1 HEW0
  go_wp2_with (first
    | refine wpList_eql (by rfl) .add 9 _ _ _ rfl (.string ⟨#[116, 114, 101, 101, 32]⟩) (.string (txt (hexOf c.tr))) rfl rfl (.string (txt T1)) (guard_addn _ _ _ _) HT1.out ?_
    | refine wpList_eql (by rfl) .add 9 _ _ _ rfl (.string (txt T1)) (.string ⟨#[10]⟩) rfl rfl (.string (txt (treeT c))) (guard_addn _ _ _ _) HT2.out ?_)
  clear HT1 HT2
  go_loopw [3, 4] (fun s i wr => ∃ (k : Nat), k ≤ n ∧ s = .string (txt (treeT c ++ (c.ps.take k).flatMap parT)) ∧ i = .int .i64 (k : Int) ∧ Below w0.heap.size w0 wr) (fun _ i _ => n - (intOf i).toNat)
  case atStart => exact ⟨0, Nat.zero_le _, by simp, rfl, Below.refl _ _⟩
  case round =>
    rename World => wr
    obtain ⟨k, hk, rfl, rfl, hb⟩ := hrel
    have HB := Lib.hid hb
    have WK := Lib.hid (next_int k (by have := HNB.out; omega))
    have hpp := (HCW.out wr hb).pars
    obtain ⟨P, hP⟩ : ∃ l, treeT c ++ (c.ps.take k).flatMap parT = l := ⟨_, rfl⟩
    have HPD := Lib.hid hP
    have hPl : P.length ≤ 1000000 := by rw [← hP, List.length_append]; have h1 := flat_take parT c.ps k; have h2 := HPS.out; omega
    rw [hP]
    clear hb
    by_cases hkn : k < n
    · have hki : (k : Int) < (n : Int) := by omega
      have HKN := Lib.hid hkn
      rcases HAP.out with h0 | ⟨b, off, rfl, hbl, hc⟩
      · rw [HN.out] at h0; omega
      obtain ⟨p, hp⟩ : ∃ p, c.ps[k]? = some p := ⟨_, List.getElem?_eq_getElem (by rw [HN.out]; exact hkn)⟩
      have HPG := Lib.hid (HIDS.out p (List.mem_of_getElem? hp))
      have HRX : Hid (wr.rangeAt b (off + k * 20) (U8 p)) := by
        have := range_below (hc k p hp) (HWW.out wr HB.out) hbl
        rwa [idE_of HPG.out.1] at this
      have HHX := Lib.hid (fun W => rhex_any p W HPG.out.1 HPG.out.2)
      obtain ⟨A1, hA1⟩ : ∃ l, P ++ [112, 97, 114, 101, 110, 116, 32] = l := ⟨_, rfl⟩
      obtain ⟨A2, hA2⟩ : ∃ l, A1 ++ hexOf p = l := ⟨_, rfl⟩
      obtain ⟨A3, hA3⟩ : ∃ l, A2 ++ [10] = l := ⟨_, rfl⟩
      have l1 : A1.length = P.length + 7 := by rw [← hA1, List.length_append]; rfl
      have l2 : A2.length = A1.length + 40 := by rw [← hA2, List.length_append, hexOf_length, HPG.out.1]
      have HA1 : Hid (∀ W, (binOp .add 9 (.string (txt P)) (.string ⟨#[112, 97, 114, 101, 110, 116, 32]⟩)).run Tryz.prog W = .ok (.string (txt A1)) W) := fun W => add_txt _ _ _ (by rw [txt_list]; exact hA1) (by rw [txt_size]; show _ + 7 ≤ _; omega) W
      have HA2 : Hid (∀ W, (binOp .add 9 (.string (txt A1)) (.string (txt (hexOf p)))).run Tryz.prog W = .ok (.string (txt A2)) W) := fun W => add_txt _ _ _ (by rw [txt_list, txt_list]; exact hA2) (by rw [txt_size, txt_size, hexOf_length, HPG.out.1]; omega) W
      have HA3 : Hid (∀ W, (binOp .add 9 (.string (txt A2)) (.string ⟨#[10]⟩)).run Tryz.prog W = .ok (.string (txt A3)) W) := fun W => add_txt _ _ _ (by rw [txt_list]; exact hA3) (by rw [txt_size]; show _ + 1 ≤ _; omega) W
      have HEND : Hid (A3 = treeT c ++ (c.ps.take (k + 1)).flatMap parT) := by
        show _ = _
        rw [flat_snoc parT hp, ← List.append_assoc, hP, ← hA3, ← hA2, ← hA1]
        unfold parT
        simp
      clear hp hbl hc hkn hk hP hPl hA1 hA2 hA3 l1 l2
      go_wp2_with (first
        | refine wpList_eql (by rfl) .add 9 _ _ _ rfl (.string (txt P)) (.string ⟨#[112, 97, 114, 101, 110, 116, 32]⟩) rfl rfl (.string (txt A1)) (guard_addn _ _ _ _) HA1.out ?_
        | refine wpList_load_mid rfl 22 _ rfl b (off + k * 20) rfl (U8 p) _ HRX.out Tryz.underlying22 rfl (id20_info8 _ HPG.out.1) ?_)
      refine (HHX.out _).mono ?_
      rintro e w4 ⟨rfl, hb⟩
      have HB4 := Lib.hid (HB.out.trans (hb.mono HB.out.size))
      clear hb HRX hpp
      go_wp2_with (first
        | refine wpList_eql (by rfl) .add 9 _ _ _ rfl (.string (txt A1)) (.string (txt (hexOf p))) rfl rfl (.string (txt A2)) (guard_addn _ _ _ _) HA2.out ?_
        | refine wpList_eql (by rfl) .add 9 _ _ _ rfl (.string (txt A2)) (.string ⟨#[10]⟩) rfl rfl (.string (txt A3)) (guard_addn _ _ _ _) HA3.out ?_)
      exact ⟨⟨k + 1, HKN.out, by rw [HEND.out] <;> rfl, by first | rw [WK.out _ rfl] | rfl, HB4.out⟩, by have := HKN.out; (first | rw [WK.out _ rfl] | skip); simp [intOf]; omega⟩
    · have hki : ¬ (k : Int) < (n : Int) := by omega
      have HEY : Hid (P = treeT c ++ c.ps.flatMap parT) := by show _ = _; rw [← hP, List.take_of_length_le (by rw [HN.out]; omega)]
      have h2 := HPS.out
      obtain ⟨A1, hA1⟩ : ∃ l, P ++ [97, 117, 116, 104, 111, 114, 32] = l := ⟨_, rfl⟩
      obtain ⟨A2, hA2⟩ : ∃ l, A1 ++ whoT c.a = l := ⟨_, rfl⟩
      obtain ⟨A3, hA3⟩ : ∃ l, A2 ++ [10] = l := ⟨_, rfl⟩
      obtain ⟨A4, hA4⟩ : ∃ l, A3 ++ [99, 111, 109, 109, 105, 116, 116, 101, 114, 32] = l := ⟨_, rfl⟩
      obtain ⟨A5, hA5⟩ : ∃ l, A4 ++ whoT c.c = l := ⟨_, rfl⟩
      have l1 : A1.length = P.length + 7 := by rw [← hA1, List.length_append]; rfl
      have l2 : A2.length = A1.length + (whoT c.a).length := by rw [← hA2, List.length_append]
      have l3 : A3.length = A2.length + 1 := by rw [← hA3, List.length_append]; rfl
      have l4 : A4.length = A3.length + 10 := by rw [← hA4, List.length_append]; rfl
      have l5 : A5.length = A4.length + (whoT c.c).length := by rw [← hA5, List.length_append]
      have la : (autT c).length = 7 + (whoT c.a).length + 1 := by unfold autT; simp only [List.length_append, List.length_cons, List.length_nil]
      have lc : (comT c).length = 10 + (whoT c.c).length + 1 := by unfold comT; simp only [List.length_append, List.length_cons, List.length_nil]
      have HA1 : Hid (∀ W, (binOp .add 9 (.string (txt P)) (.string ⟨#[97, 117, 116, 104, 111, 114, 32]⟩)).run Tryz.prog W = .ok (.string (txt A1)) W) := fun W => add_txt _ _ _ (by rw [txt_list]; exact hA1) (by rw [txt_size]; show _ + 7 ≤ _; omega) W
      have HA2 : Hid (∀ W, (binOp .add 9 (.string (txt A1)) (.string (txt (whoT c.a)))).run Tryz.prog W = .ok (.string (txt A2)) W) := fun W => add_txt _ _ _ (by rw [txt_list, txt_list]; exact hA2) (by rw [txt_size, txt_size]; omega) W
      have HA3 : Hid (∀ W, (binOp .add 9 (.string (txt A2)) (.string ⟨#[10]⟩)).run Tryz.prog W = .ok (.string (txt A3)) W) := fun W => add_txt _ _ _ (by rw [txt_list]; exact hA3) (by rw [txt_size]; show _ + 1 ≤ _; omega) W
      have HA4 : Hid (∀ W, (binOp .add 9 (.string (txt A3)) (.string ⟨#[99, 111, 109, 109, 105, 116, 116, 101, 114, 32]⟩)).run Tryz.prog W = .ok (.string (txt A4)) W) := fun W => add_txt _ _ _ (by rw [txt_list]; exact hA4) (by rw [txt_size]; show _ + 10 ≤ _; omega) W
      have HA5 : Hid (∀ W, (binOp .add 9 (.string (txt A4)) (.string (txt (whoT c.c)))).run Tryz.prog W = .ok (.string (txt A5)) W) := fun W => add_txt _ _ _ (by rw [txt_list, txt_list]; exact hA5) (by rw [txt_size, txt_size]; omega) W
      have HA6 : Hid (∀ W, (binOp .add 9 (.string (txt A5)) (.string ⟨#[10]⟩)).run Tryz.prog W = .ok (.string (txt (frontT c))) W) := fun W => add_txt _ _ _ (by rw [txt_list, ← hA5, ← hA4, ← hA3, ← hA2, ← hA1, HEY.out]; unfold frontT autT comT; simp) (by rw [txt_size]; show _ + 1 ≤ _; omega) W
      have HBD : Hid (Below w0.heap.size w0 wr.drew) := HB.out.drew
      clear hkn hk hP hPl h2 hA1 hA2 hA3 hA4 hA5 l1 l2 l3 l4 l5 la lc
      go_wp2_with fail
      refine wp_region_noPanic ?_
      refine wp_region_held_drew (S := fun W => Below w0.heap.size w0 W) (by kernel_rfl) ?_ (fun hHeld => ?_)
      · exact HBD.out
      refine wpAnyH_take (i := 0) (v := ?_) (by simp only [List.getElem?_toArray, List.getElem?_cons_zero]; rfl) (by kernel_rfl) (by kernel_rfl) (by kernel_rfl) (fun _ _ _ h => h) (Or.inl ⟨by rfl, ?_⟩) (by assumption) ?_
      rotate_left
      · intro W hSW
        go_simp
        try with_reducible rfl
      try simp only [Act.put, List.setIfInBounds_toArray, List.set_cons_zero, List.set_cons_succ]
      refine wpAnyH_take (i := 1) (by simp only [List.getElem?_toArray, List.getElem?_cons_succ, List.getElem?_cons_zero]; rfl) (by kernel_rfl) (by kernel_rfl) (by kernel_rfl) (fun _ _ _ h => h) (yieldsIf_eql (by rfl) .add 9 _ _ _ rfl (.string (txt P)) (.string ⟨#[97, 117, 116, 104, 111, 114, 32]⟩) rfl rfl (.string (txt A1)) (guard_addn _ _ _ _) HA1.out) (by assumption) ?_
      try simp only [Act.put, List.setIfInBounds_toArray, List.set_cons_zero, List.set_cons_succ]
      refine wpAnyH_take (i := 2) (v := ?_) (by simp only [List.getElem?_toArray, List.getElem?_cons_succ, List.getElem?_cons_zero]; rfl) (by kernel_rfl) (by kernel_rfl) (by kernel_rfl) (fun _ _ _ h => h) (Or.inl ⟨by rfl, ?_⟩) (by assumption) ?_
      rotate_left
      · intro W hSW
        go_simp
        try with_reducible rfl
      try simp only [Act.put, List.setIfInBounds_toArray, List.set_cons_zero, List.set_cons_succ]
      refine wpAnyH_take (i := 3) (by simp only [List.getElem?_toArray, List.getElem?_cons_succ, List.getElem?_cons_zero]; rfl) (by kernel_rfl) (by kernel_rfl) (by kernel_rfl) (fun _ _ _ h => h) (yieldsIf_load_mid (by rfl) 25 _ rfl p0 21 rfl (whoL c.a) _ (fun W hSW => (HCW.out W hSW).author) Tryz.underlying25 rfl (info_rwhoL c.a)) (by assumption) ?_
      try simp only [Act.put, List.setIfInBounds_toArray, List.set_cons_zero, List.set_cons_succ]
      refine wpAnyH_take (i := 8) (v := ?_) (by simp only [List.getElem?_toArray, List.getElem?_cons_succ, List.getElem?_cons_zero]; rfl) (by kernel_rfl) (by kernel_rfl) (by kernel_rfl) (fun _ _ _ h => h) (Or.inl ⟨by rfl, ?_⟩) (by assumption) ?_
      rotate_left
      · intro W hSW
        go_simp
        try with_reducible rfl
      try simp only [Act.put, List.setIfInBounds_toArray, List.set_cons_zero, List.set_cons_succ]
      refine wpAnyH_take (i := 9) (by simp only [List.getElem?_toArray, List.getElem?_cons_succ, List.getElem?_cons_zero]; rfl) (by kernel_rfl) (by kernel_rfl) (by kernel_rfl) (fun _ _ _ h => h) (yieldsIf_load_mid (by rfl) 25 _ rfl p0 25 rfl (whoL c.c) _ (fun W hSW => (HCW.out W hSW).committer) Tryz.underlying25 rfl (info_rwhoL c.c)) (by assumption) ?_
      try simp only [Act.put, List.setIfInBounds_toArray, List.set_cons_zero, List.set_cons_succ]
      try rw [show (whoL c.a).toArray = whoA c.a from rfl, show (whoL c.c).toArray = whoA c.c from rfl]
      refine wpAnyH_ready (rs := [4]) (by kernel_rfl) (by simp) ?_
      refine AllReadyH.cons (by simp only [List.getElem?_toArray, List.getElem?_cons_succ, List.getElem?_cons_zero]; rfl) (fun K hK => ?_) AllReadyH.nil
      go_simp
      refine (rtext_any c.a _ (HEW.out _ HBD.out) HSA.out).mono ?_
      rintro e v1 ⟨rfl, hb⟩
      have hv1 : Below w0.heap.size w0 v1 := HBD.out.trans (hb.mono HBD.out.size)
      have HV1 := Lib.hid hv1
      clear hb hv1
      go_wp2_with fail
      refine hK.out _ _ (HV1.out) (fun hHeld2 => ?_)
      clear hK K hHeld
      have hHeld := hHeld2
      clear hHeld2
      try simp only [Act.put, List.setIfInBounds_toArray, List.set_cons_zero, List.set_cons_succ]
      refine wpAnyH_take (i := 5) (by simp only [List.getElem?_toArray, List.getElem?_cons_succ, List.getElem?_cons_zero]; rfl) (by kernel_rfl) (by kernel_rfl) (by kernel_rfl) (fun _ _ _ h => h) (yieldsIf_eql (by rfl) .add 9 _ _ _ rfl (.string (txt A1)) (.string (txt (whoT c.a))) rfl rfl (.string (txt A2)) (guard_addn _ _ _ _) HA2.out) (by assumption) ?_
      try simp only [Act.put, List.setIfInBounds_toArray, List.set_cons_zero, List.set_cons_succ]
      refine wpAnyH_take (i := 6) (by simp only [List.getElem?_toArray, List.getElem?_cons_succ, List.getElem?_cons_zero]; rfl) (by kernel_rfl) (by kernel_rfl) (by kernel_rfl) (fun _ _ _ h => h) (yieldsIf_eql (by rfl) .add 9 _ _ _ rfl (.string (txt A2)) (.string ⟨#[10]⟩) rfl rfl (.string (txt A3)) (guard_addn _ _ _ _) HA3.out) (by assumption) ?_
      try simp only [Act.put, List.setIfInBounds_toArray, List.set_cons_zero, List.set_cons_succ]
      refine wpAnyH_take (i := 7) (by simp only [List.getElem?_toArray, List.getElem?_cons_succ, List.getElem?_cons_zero]; rfl) (by kernel_rfl) (by kernel_rfl) (by kernel_rfl) (fun _ _ _ h => h) (yieldsIf_eql (by rfl) .add 9 _ _ _ rfl (.string (txt A3)) (.string ⟨#[99, 111, 109, 109, 105, 116, 116, 101, 114, 32]⟩) rfl rfl (.string (txt A4)) (guard_addn _ _ _ _) HA4.out) (by assumption) ?_
      try simp only [Act.put, List.setIfInBounds_toArray, List.set_cons_zero, List.set_cons_succ]
      refine wpAnyH_ready (rs := [10]) (by kernel_rfl) (by simp) ?_
      refine AllReadyH.cons (by simp only [List.getElem?_toArray, List.getElem?_cons_succ, List.getElem?_cons_zero]; rfl) (fun K hK => ?_) AllReadyH.nil
      go_simp
      refine (rtext_any c.c _ (HEW.out _ HV1.out) HSC.out).mono ?_
      rintro e v2 ⟨rfl, hb⟩
      have hv2 : Below w0.heap.size w0 v2 := HV1.out.trans (hb.mono HV1.out.size)
      have HV2 := Lib.hid hv2
      clear hb hv2
      go_wp2_with fail
      refine hK.out _ _ (HV2.out) (fun hHeld2 => ?_)
      clear hK K hHeld
      have hHeld := hHeld2
      clear hHeld2
      try simp only [Act.put, List.setIfInBounds_toArray, List.set_cons_zero, List.set_cons_succ]
      refine wpAnyH_take (i := 11) (by simp only [List.getElem?_toArray, List.getElem?_cons_succ, List.getElem?_cons_zero]; rfl) (by kernel_rfl) (by kernel_rfl) (by kernel_rfl) (fun _ _ _ h => h) (yieldsIf_eql (by rfl) .add 9 _ _ _ rfl (.string (txt A4)) (.string (txt (whoT c.c))) rfl rfl (.string (txt A5)) (guard_addn _ _ _ _) HA5.out) (by assumption) ?_
      try simp only [Act.put, List.setIfInBounds_toArray, List.set_cons_zero, List.set_cons_succ]
      refine wpAnyH_take (i := 12) (by simp only [List.getElem?_toArray, List.getElem?_cons_succ, List.getElem?_cons_zero]; rfl) (by kernel_rfl) (by kernel_rfl) (by kernel_rfl) (fun _ _ _ h => h) (yieldsIf_eql (by rfl) .add 9 _ _ _ rfl (.string (txt A5)) (.string ⟨#[10]⟩) rfl rfl (.string (txt (frontT c))) (guard_addn _ _ _ _) HA6.out) (by assumption) ?_
      try simp only [Act.put, List.setIfInBounds_toArray, List.set_cons_zero, List.set_cons_succ]
      refine wpAnyH_take (i := 13) (v := ?_) (by simp only [List.getElem?_toArray, List.getElem?_cons_succ, List.getElem?_cons_zero]; rfl) (by kernel_rfl) (by kernel_rfl) (by kernel_rfl) (fun _ _ _ h => h) (Or.inl ⟨by rfl, ?_⟩) (by assumption) ?_
      rotate_left
      · intro W hSW
        go_simp
        try with_reducible rfl
      try simp only [Act.put, List.setIfInBounds_toArray, List.set_cons_zero, List.set_cons_succ]
      refine wpAnyH_done (by kernel_rfl) ?_ _
      refine NoPanic.normal ?_
      clear hHeld HA1 HA2 HA3 HA4 HA5 HA6 hpp
      go_wp2_with fail
      go_loopw [3, 5] (fun s i wt => ∃ (j : Nat), j ≤ m ∧ s = .string (txt (frontT c ++ exsT (c.xs.take j))) ∧ i = .int .i64 (j : Int) ∧ Below w0.heap.size w0 wt) (fun _ i _ => m - (intOf i).toNat)
      case atStart => exact ⟨0, Nat.zero_le _, by simp [exsT], rfl, HV2.out⟩
      case round =>
        rename World => wt
        obtain ⟨j, hj, rfl, rfl, hb⟩ := hrel
        clear HB WK HBD
        have HB := Lib.hid hb
        have WK := Lib.hid (next_int j (by have := HMB.out; omega))
        have hxx := (HCW.out wt hb).exts
        have hmm := (HCW.out wt hb).msg
        obtain ⟨P, hP⟩ : ∃ l, frontT c ++ exsT (c.xs.take j) = l := ⟨_, rfl⟩
        have lf : (frontT c).length = (treeT c).length + (c.ps.flatMap parT).length + (autT c).length + (comT c).length := by unfold frontT; simp only [List.length_append]
        have h2 := HPS.out
        have hPl : P.length ≤ 1000000 := by rw [← hP, List.length_append]; have h1 : (exsT (c.xs.take j)).length ≤ (exsT c.xs).length := flat_take _ c.xs j; omega
        rw [hP]
        clear hb
        by_cases hjm : j < m
        · have hji : (j : Int) < (m : Int) := by omega
          have HKN := Lib.hid hjm
          rcases HAX.out with h0 | ⟨b, off, rfl, hbl, hc⟩
          · rw [HM.out] at h0; omega
          obtain ⟨x, hx⟩ : ∃ x, c.xs[j]? = some x := ⟨_, List.getElem?_eq_getElem (by rw [HM.out]; exact hjm)⟩
          have HXR : Hid (∀ W, Below w0.heap.size w0 W → W.rangeAt b (off + j * 2) (extE x)) := fun W hW => range_below (hc j x hx) (HWW.out W hW) hbl
          have hx2 := HXS.out x (List.mem_of_getElem? hx)
          have HVA : Hid (∀ W, Calls Tryz.prog 40 #[.string x.2] W fun e w' => e = .returned (.string (txt (nlB x.2.data.toList))) ∧ Below W.heap.size W w') := fun W => by
            have := rvalue_any x.2.data.toList W (by rw [← Lib.size_eq]; exact hx2)
            rwa [txt_of] at this
          have hsn : exsT (c.xs.take (j + 1)) = exsT (c.xs.take j) ++ (extT x ++ [10]) := flat_snoc _ hx
          obtain ⟨P', hP'⟩ : ∃ l, frontT c ++ exsT (c.xs.take (j + 1)) = l := ⟨_, rfl⟩
          have hP'l : P'.length ≤ 1000000 := by rw [← hP', List.length_append]; have h1 : (exsT (c.xs.take (j + 1))).length ≤ (exsT c.xs).length := flat_take _ c.xs (j + 1); omega
          obtain ⟨A1, hA1⟩ : ∃ l, P ++ x.1.data.toList = l := ⟨_, rfl⟩
          obtain ⟨A2, hA2⟩ : ∃ l, A1 ++ [32] = l := ⟨_, rfl⟩
          obtain ⟨A3, hA3⟩ : ∃ l, A2 ++ nlB x.2.data.toList = l := ⟨_, rfl⟩
          have hlast : A3 ++ [10] = P' := by rw [← hP', hsn, ← List.append_assoc, hP, ← hA3, ← hA2, ← hA1]; unfold extT; rw [rep_nlB]; simp
          have l4 := congrArg List.length hlast
          rw [List.length_append] at l4
          have l3 : A3.length = A2.length + (nlB x.2.data.toList).length := by rw [← hA3, List.length_append]
          have l2 : A2.length = A1.length + 1 := by rw [← hA2, List.length_append]; rfl
          have l1 : A1.length = P.length + x.1.data.toList.length := by rw [← hA1, List.length_append]
          have HA1 : Hid (∀ W, (binOp .add 9 (.string (txt P)) (.string x.1)).run Tryz.prog W = .ok (.string (txt A1)) W) := fun W => add_txt _ _ _ (by rw [txt_list]; exact hA1) (by rw [txt_size, Lib.size_eq]; omega) W
          have HA2 : Hid (∀ W, (binOp .add 9 (.string (txt A1)) (.string ⟨#[32]⟩)).run Tryz.prog W = .ok (.string (txt A2)) W) := fun W => add_txt _ _ _ (by rw [txt_list]; exact hA2) (by rw [txt_size]; show _ + 1 ≤ _; omega) W
          have HA3 : Hid (∀ W, (binOp .add 9 (.string (txt A2)) (.string (txt (nlB x.2.data.toList)))).run Tryz.prog W = .ok (.string (txt A3)) W) := fun W => add_txt _ _ _ (by rw [txt_list, txt_list]; exact hA3) (by rw [txt_size, txt_size]; omega) W
          have HA4 : Hid (∀ W, (binOp .add 9 (.string (txt A3)) (.string ⟨#[10]⟩)).run Tryz.prog W = .ok (.string (txt P')) W) := fun W => add_txt _ _ _ (by rw [txt_list]; exact hlast) (by rw [txt_size]; show _ + 1 ≤ _; omega) W
          have HEND := Lib.hid hP'
          have HBD : Hid (Below w0.heap.size w0 wt.drew) := HB.out.drew
          clear hx hbl hc hjm hj hP hPl hP' hP'l hA1 hA2 hA3 hlast l1 l2 l3 l4 lf h2 hsn hx2
          go_wp2_with fail
          refine wp_region_noPanic ?_
          refine wp_region_held_drew (S := fun W => Below w0.heap.size w0 W) (by kernel_rfl) ?_ (fun hHeld => ?_)
          · exact HBD.out
          refine wpAnyH_take (i := 0) (v := ?_) (by simp only [List.getElem?_toArray, List.getElem?_cons_zero]; rfl) (by kernel_rfl) (by kernel_rfl) (by kernel_rfl) (fun _ _ _ h => h) (Or.inl ⟨by rfl, ?_⟩) (by assumption) ?_
          rotate_left
          · intro W hSW
            go_simp
            try with_reducible rfl
          try simp only [Act.put, List.setIfInBounds_toArray, List.set_cons_zero, List.set_cons_succ]
          refine wpAnyH_take (i := 1) (v := ?_) (by simp only [List.getElem?_toArray, List.getElem?_cons_succ, List.getElem?_cons_zero]; rfl) (by kernel_rfl) (by kernel_rfl) (by kernel_rfl) (fun _ _ _ h => h) (Or.inl ⟨by rfl, ?_⟩) (by assumption) ?_
          rotate_left
          · intro W hSW
            go_simp
            try with_reducible rfl
          try simp only [Act.put, List.setIfInBounds_toArray, List.set_cons_zero, List.set_cons_succ]
          refine wpAnyH_take (i := 2) (by simp only [List.getElem?_toArray, List.getElem?_cons_succ, List.getElem?_cons_zero]; rfl) (by kernel_rfl) (by kernel_rfl) (by kernel_rfl) (fun _ _ _ h => h) (yieldsIf_load_sl (by rfl) 26 _ rfl p0 29 rfl (.slice (some ⟨b, off, none⟩) m xc) (fun W hSW => (HCW.out W hSW).exts) Tryz.underlying26) (by assumption) ?_
          try simp only [Act.put, List.setIfInBounds_toArray, List.set_cons_zero, List.set_cons_succ]
          refine wpAnyH_take (i := 3) (v := ?_) (by simp only [List.getElem?_toArray, List.getElem?_cons_succ, List.getElem?_cons_zero]; rfl) (by kernel_rfl) (by kernel_rfl) (by kernel_rfl) (fun _ _ _ h => h) (Or.inl ⟨by rfl, ?_⟩) (by assumption) ?_
          rotate_left
          · intro W hSW
            go_simp
            try with_reducible rfl
          try simp only [Act.put, List.setIfInBounds_toArray, List.set_cons_zero, List.set_cons_succ]
          refine wpAnyH_take (i := 4) (v := ?_) (by simp only [List.getElem?_toArray, List.getElem?_cons_succ, List.getElem?_cons_zero]; rfl) (by kernel_rfl) (by kernel_rfl) (by kernel_rfl) (fun _ _ _ h => h) (Or.inl ⟨by rfl, ?_⟩) (by assumption) ?_
          rotate_left
          · intro W hSW
            go_simp
            try with_reducible rfl
          try simp only [Act.put, List.setIfInBounds_toArray, List.set_cons_zero, List.set_cons_succ]
          refine wpAnyH_take (i := 5) (v := ?_) (by simp only [List.getElem?_toArray, List.getElem?_cons_succ, List.getElem?_cons_zero]; rfl) (by kernel_rfl) (by kernel_rfl) (by kernel_rfl) (fun _ _ _ h => h) (Or.inl ⟨by rfl, ?_⟩) (by assumption) ?_
          rotate_left
          · intro W hSW
            go_simp
            try with_reducible rfl
          try simp only [Act.put, List.setIfInBounds_toArray, List.set_cons_zero, List.set_cons_succ]
          refine wpAnyH_take (i := 6) (by simp only [List.getElem?_toArray, List.getElem?_cons_succ, List.getElem?_cons_zero]; rfl) (by kernel_rfl) (by kernel_rfl) (by kernel_rfl) (fun _ _ _ h => h) (yieldsIf_load_str (by rfl) 9 _ rfl b (off + j * 2) rfl x.1 (fun W hSW => range_key (HXR.out W hSW)) Tryz.underlying9) (by assumption) ?_
          try simp only [Act.put, List.setIfInBounds_toArray, List.set_cons_zero, List.set_cons_succ]
          refine wpAnyH_take (i := 7) (by simp only [List.getElem?_toArray, List.getElem?_cons_succ, List.getElem?_cons_zero]; rfl) (by kernel_rfl) (by kernel_rfl) (by kernel_rfl) (fun _ _ _ h => h) (yieldsIf_eql (by rfl) .add 9 _ _ _ rfl (.string (txt P)) (.string x.1) rfl rfl (.string (txt A1)) (guard_addn _ _ _ _) HA1.out) (by assumption) ?_
          try simp only [Act.put, List.setIfInBounds_toArray, List.set_cons_zero, List.set_cons_succ]
          refine wpAnyH_take (i := 8) (by simp only [List.getElem?_toArray, List.getElem?_cons_succ, List.getElem?_cons_zero]; rfl) (by kernel_rfl) (by kernel_rfl) (by kernel_rfl) (fun _ _ _ h => h) (yieldsIf_eql (by rfl) .add 9 _ _ _ rfl (.string (txt A1)) (.string ⟨#[32]⟩) rfl rfl (.string (txt A2)) (guard_addn _ _ _ _) HA2.out) (by assumption) ?_
          try simp only [Act.put, List.setIfInBounds_toArray, List.set_cons_zero, List.set_cons_succ]
          refine wpAnyH_take (i := 9) (v := ?_) (by simp only [List.getElem?_toArray, List.getElem?_cons_succ, List.getElem?_cons_zero]; rfl) (by kernel_rfl) (by kernel_rfl) (by kernel_rfl) (fun _ _ _ h => h) (Or.inl ⟨by rfl, ?_⟩) (by assumption) ?_
          rotate_left
          · intro W hSW
            go_simp
            try with_reducible rfl
          try simp only [Act.put, List.setIfInBounds_toArray, List.set_cons_zero, List.set_cons_succ]
          refine wpAnyH_take (i := 10) (by simp only [List.getElem?_toArray, List.getElem?_cons_succ, List.getElem?_cons_zero]; rfl) (by kernel_rfl) (by kernel_rfl) (by kernel_rfl) (fun _ _ _ h => h) (yieldsIf_load_sl (by rfl) 26 _ rfl p0 29 rfl (.slice (some ⟨b, off, none⟩) m xc) (fun W hSW => (HCW.out W hSW).exts) Tryz.underlying26) (by assumption) ?_
          try simp only [Act.put, List.setIfInBounds_toArray, List.set_cons_zero, List.set_cons_succ]
          refine wpAnyH_take (i := 11) (v := ?_) (by simp only [List.getElem?_toArray, List.getElem?_cons_succ, List.getElem?_cons_zero]; rfl) (by kernel_rfl) (by kernel_rfl) (by kernel_rfl) (fun _ _ _ h => h) (Or.inl ⟨by rfl, ?_⟩) (by assumption) ?_
          rotate_left
          · intro W hSW
            go_simp
            try with_reducible rfl
          try simp only [Act.put, List.setIfInBounds_toArray, List.set_cons_zero, List.set_cons_succ]
          refine wpAnyH_take (i := 12) (v := ?_) (by simp only [List.getElem?_toArray, List.getElem?_cons_succ, List.getElem?_cons_zero]; rfl) (by kernel_rfl) (by kernel_rfl) (by kernel_rfl) (fun _ _ _ h => h) (Or.inl ⟨by rfl, ?_⟩) (by assumption) ?_
          rotate_left
          · intro W hSW
            go_simp
            try with_reducible rfl
          try simp only [Act.put, List.setIfInBounds_toArray, List.set_cons_zero, List.set_cons_succ]
          refine wpAnyH_take (i := 13) (v := ?_) (by simp only [List.getElem?_toArray, List.getElem?_cons_succ, List.getElem?_cons_zero]; rfl) (by kernel_rfl) (by kernel_rfl) (by kernel_rfl) (fun _ _ _ h => h) (Or.inl ⟨by rfl, ?_⟩) (by assumption) ?_
          rotate_left
          · intro W hSW
            go_simp
            try with_reducible rfl
          try simp only [Act.put, List.setIfInBounds_toArray, List.set_cons_zero, List.set_cons_succ]
          refine wpAnyH_take (i := 14) (by simp only [List.getElem?_toArray, List.getElem?_cons_succ, List.getElem?_cons_zero]; rfl) (by kernel_rfl) (by kernel_rfl) (by kernel_rfl) (fun _ _ _ h => h) (yieldsIf_load_str (by rfl) 9 _ rfl b (off + j * 2 + 1) rfl x.2 (fun W hSW => range_val (HXR.out W hSW)) Tryz.underlying9) (by assumption) ?_
          try simp only [Act.put, List.setIfInBounds_toArray, List.set_cons_zero, List.set_cons_succ]
          refine wpAnyH_ready (rs := [15]) (by kernel_rfl) (by simp) ?_
          refine AllReadyH.cons (by simp only [List.getElem?_toArray, List.getElem?_cons_succ, List.getElem?_cons_zero]; rfl) (fun K hK => ?_) AllReadyH.nil
          go_simp
          refine (HVA.out _).mono ?_
          rintro e v1 ⟨rfl, hb⟩
          have hv1 : Below w0.heap.size w0 v1 := HBD.out.trans (hb.mono HBD.out.size)
          have HV1 := Lib.hid hv1
          clear hb hv1
          go_wp2_with fail
          refine hK.out _ _ (HV1.out) (fun hHeld2 => ?_)
          clear hK K hHeld
          have hHeld := hHeld2
          clear hHeld2
          try simp only [Act.put, List.setIfInBounds_toArray, List.set_cons_zero, List.set_cons_succ]
          refine wpAnyH_take (i := 16) (by simp only [List.getElem?_toArray, List.getElem?_cons_succ, List.getElem?_cons_zero]; rfl) (by kernel_rfl) (by kernel_rfl) (by kernel_rfl) (fun _ _ _ h => h) (yieldsIf_eql (by rfl) .add 9 _ _ _ rfl (.string (txt A2)) (.string (txt (nlB x.2.data.toList))) rfl rfl (.string (txt A3)) (guard_addn _ _ _ _) HA3.out) (by assumption) ?_
          try simp only [Act.put, List.setIfInBounds_toArray, List.set_cons_zero, List.set_cons_succ]
          refine wpAnyH_take (i := 17) (by simp only [List.getElem?_toArray, List.getElem?_cons_succ, List.getElem?_cons_zero]; rfl) (by kernel_rfl) (by kernel_rfl) (by kernel_rfl) (fun _ _ _ h => h) (yieldsIf_eql (by rfl) .add 9 _ _ _ rfl (.string (txt A3)) (.string ⟨#[10]⟩) rfl rfl (.string (txt P')) (guard_addn _ _ _ _) HA4.out) (by assumption) ?_
          try simp only [Act.put, List.setIfInBounds_toArray, List.set_cons_zero, List.set_cons_succ]
          refine wpAnyH_take (i := 18) (v := ?_) (by simp only [List.getElem?_toArray, List.getElem?_cons_succ, List.getElem?_cons_zero]; rfl) (by kernel_rfl) (by kernel_rfl) (by kernel_rfl) (fun _ _ _ h => h) (Or.inl ⟨by rfl, ?_⟩) (by assumption) ?_
          rotate_left
          · intro W hSW
            go_simp
            try with_reducible rfl
          try simp only [Act.put, List.setIfInBounds_toArray, List.set_cons_zero, List.set_cons_succ]
          refine wpAnyH_done (by kernel_rfl) ?_ _
          refine NoPanic.normal ?_
          clear hHeld
          go_wp2_with fail
          exact ⟨⟨j + 1, HKN.out, by rw [HEND.out] <;> rfl, by first | rw [WK.out _ rfl] | rfl, HV1.out⟩, by have := HKN.out; (first | rw [WK.out _ rfl] | skip); simp [intOf]; omega⟩
        · have hji : ¬ (j : Int) < (m : Int) := by omega
          have hall : P = frontT c ++ exsT c.xs := by rw [← hP, List.take_of_length_le (by rw [HM.out]; omega)]
          obtain ⟨A1, hA1⟩ : ∃ l, P ++ [10] = l := ⟨_, rfl⟩
          have l1 : A1.length = P.length + 1 := by rw [← hA1, List.length_append]; rfl
          have HA1 : Hid (∀ W, (binOp .add 9 (.string (txt P)) (.string ⟨#[10]⟩)).run Tryz.prog W = .ok (.string (txt A1)) W) := fun W => add_txt _ _ _ (by rw [txt_list]; exact hA1) (by rw [txt_size]; show _ + 1 ≤ _; omega) W
          have HA2 : Hid (∀ W, (binOp .add 9 (.string (txt A1)) (.string c.m)).run Tryz.prog W = .ok (.string (txt (printC c))) W) := fun W => add_txt _ _ _ (by rw [txt_list, ← hA1, hall]; rfl) (by rw [txt_size, Lib.size_eq]; omega) W
          clear hjm hj hP hPl hall hA1 l1 lf h2
          go_wp2_with (first
            | refine wpList_eql (by rfl) .add 9 _ _ _ rfl (.string (txt P)) (.string ⟨#[10]⟩) rfl rfl (.string (txt A1)) (guard_addn _ _ _ _) HA1.out ?_
            | refine wpList_eql (by rfl) .add 9 _ _ _ rfl (.string (txt A1)) (.string c.m) rfl rfl (.string (txt (printC c))) (guard_addn _ _ _ _) HA2.out ?_)
          go_ret
          exact ⟨rfl, HWW.out _ HB.out⟩
end Go.Proofs.YtindmggmblmmcaaGreatDoor
