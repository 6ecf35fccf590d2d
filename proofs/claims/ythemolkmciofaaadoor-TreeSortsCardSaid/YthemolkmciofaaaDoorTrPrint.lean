/- tree.Print: the walk. -/
import Derived.Test.YthemolkmciofaaaDoorTrRow
namespace Go.Proofs.YthemolkmciofaaaDoor
open Go.RowKit Go.WideMaps Go.Maps Plain
set_option linter.unusedVariables false
set_option linter.unusedSimpArgs false
theorem Mid.own_lt {w : World} {base : Nat} {v : Value} {n : Nat} {xs : List Int} (h : Mid w base v n xs) {g : Nat} (hg : v.ownBlock = some g) : base ≤ g ∧ g < w.heap.size := by
  obtain ⟨h1, ⟨rfl, rfl⟩ | ⟨g', o, cap, rfl, hb, hlt, -⟩⟩ := h
  · cases hg
  · simp only [Value.ownBlock, Option.some.injEq] at hg
    subst hg
    exact ⟨hb, hlt⟩
theorem slice_id (B o : Nat) (w : World) : (Instr.sliceAt 28 (.pointer (some ⟨B, o, none⟩)) none none none).run Tryd.prog w = .ok (.slice (some ⟨B, o, none⟩) 20 20) w := by
  have hal : Tryd.prog.arrayLen 28 = 20 := by kernel_rfl
  have hsz : ∀ W : World, (sizeOf (Tryd.prog.elem 28)).run Tryd.prog W = .ok 1 W := fun W => by kernel_rfl
  rw [run_sliceAt_array_all (P := Tryd.prog) w 28 ⟨B, o, none⟩ (by kernel_rfl), hal]
  try rw [hsz]
  try simp [Result.andThen_ok, slicedAt]
  try (unfold Addr.add; split <;> simp_all)
theorem nums_cells (s : ByteArray) : U8 (numsOf s) = byteCells s := by
  unfold U8 numsOf byteCells
  rw [List.map_map]
  rfl
theorem numsOf_txt (l : List UInt8) : numsOf (txt l) = l.map fun c => (c.toNat : Int) := by unfold numsOf; rw [txt_list]
theorem numsOf_app (l m : List UInt8) : numsOf (txt (l ++ m)) = numsOf (txt l) ++ numsOf (txt m) := by simp only [numsOf_txt, List.map_append]
theorem numsOf_len (l : List UInt8) : (numsOf (txt l)).length = l.length := by rw [numsOf_txt, List.length_map]
theorem nums_id (n : List Int) (h : BT n) : numsOf (txt (bytesI n)) = n := by rw [numsOf_txt]; exact bytesI_nums n h
/-- What Print answers. -/
def TrPrint (e : Ending) (w' : World) (xs : List TE) : Prop :=
  if rightT xs = true then ∃ a c, e = .returned (.tuple #[.slice a (textT xs).length c, .int .i64 0]) ∧ RowB w' a (textT xs).length c (numsOf (txt (textT xs)))
  else e = .returned (.tuple #[.slice none 0 0, .int .i64 4])
theorem TrPrint.yes {e : Ending} {w' : World} {xs : List TE} (h : TrPrint e w' xs) (hr : rightT xs = true) : ∃ a c, e = .returned (.tuple #[.slice a (textT xs).length c, .int .i64 0]) ∧ RowB w' a (textT xs).length c (numsOf (txt (textT xs))) := by
  unfold TrPrint at h
  rwa [if_pos hr] at h
theorem TrPrint.no {e : Ending} {w' : World} {xs : List TE} (h : TrPrint e w' xs) (hr : rightT xs = false) : e = .returned (.tuple #[.slice none 0 0, .int .i64 4]) := by
  unfold TrPrint at h
  rwa [if_neg (by rw [hr]; decide)] at h
set_option maxRecDepth 100000 in
set_option maxHeartbeats 32000000 in
theorem tprint_any (a : Option Addr) (c : Nat) (xs : List TE) (w : World) (h : EsAt w a xs) (hn : xs.length ≤ 100000) (hgf : ∀ x ∈ xs, GoodE x) (hps : ∀ x ∈ xs, x.p.size ≤ 100000) (hE : Env w) :
    Calls Tryd.prog 12 #[.slice a xs.length c] w fun e w' => TrPrint e w' xs ∧ Below w.heap.size w w' := by
  have H := Lib.hid h
  have HE := Lib.hid hE
  have HG := Lib.hid hgf
  have HRT := tright_any a c xs w h (by omega) hps
  obtain ⟨n, hnl⟩ : ∃ n, xs.length = n := ⟨_, rfl⟩
  have HN := Lib.hid hnl
  have HNB : Hid (n ≤ 100000) := by show _ ≤ _; omega
  rw [hnl] at HRT ⊢
  have HRT := Lib.hid HRT
  clear h hn hgf hE hnl hps
  go_enter Tryd.func12, Tryd.ntmps12
  go_wp2_with fail
  refine HRT.out.mono ?_
  rintro e w1 ⟨rfl, hb⟩
  have HB1 := Lib.hid hb
  clear hb HRT
  cases hr : rightT xs
  · have HP : Hid (∀ W, TrPrint (.returned (.tuple #[.slice none 0 0, .int .i64 4])) W xs) := fun W => by
      unfold TrPrint
      rw [if_neg (by rw [hr]; decide)]
    clear hr
    go_wp2_with fail
    go_ret2
    exact ⟨HP.out _, HB1.out⟩
  · have HEACH := Lib.hid (right_each hr)
    have HP : Hid (∀ W m a c, m = (textT xs).length → RowB W a m c (numsOf (txt (textT xs))) → TrPrint (.returned (.tuple #[.slice a m c, .int .i64 0])) W xs) := fun W m a c hm hR => by
      subst hm
      unfold TrPrint
      rw [if_pos hr]
      exact ⟨a, c, rfl, hR⟩
    have HTLA : Hid (∀ k, (textT (xs.take k)).length ≤ 283 * n) := fun k => by
      have := textT_len (xs.take k) (fun x hx => HEACH.out x (List.mem_of_mem_take hx)) (fun x hx => (HG.out x (List.mem_of_mem_take hx)).1)
      have h2 : (xs.take k).length ≤ n := by rw [List.length_take, HN.out]; omega
      omega
    clear hr
    go_wp2_with fail
    go_loopw [4, 12] (fun v i wr => ∃ k : Nat, k ≤ n ∧ i = .int .i64 (k : Int) ∧ Mid wr w.heap.size v (textT (xs.take k)).length (numsOf (txt (textT (xs.take k)))) ∧ Below w.heap.size w wr) (fun _ i _ => n - (intOf i).toNat)
    case atStart => exact ⟨0, by omega, rfl, by rw [List.take_zero]; exact Mid.nil _ _, HB1.out⟩
    case round =>
      obtain ⟨k, hk, rfl, hm, hb⟩ := hrel
      have HM := Lib.hid hm
      have HW := Lib.hid hb
      have WK := Lib.hid (next_int k (by have := HNB.out; omega))
      obtain ⟨va, vc, rfl, -, -, -⟩ := hm.shape
      clear hm hb HB1
      by_cases hkn : k = n
      · subst hkn
        have hki : ¬ (k : Int) < (k : Int) := by omega
        have hall : xs.take k = xs := List.take_of_length_le (by rw [HN.out]; omega)
        rw [hall] at HM ⊢
        have HPP := Lib.hid (HP.out wr _ va vc rfl (HM.out.row (range_of_mem (numsOf_bytes _))))
        generalize (textT xs).length = tl at *
        clear hall
        go_wp2_with fail
        go_ret2
        exact ⟨HPP.out, HW.out⟩
      · have hkl : k < n := by omega
        have hki : (k : Int) < (n : Int) := by omega
        obtain ⟨b, off, x, rfl, hp, h20, hbl, hr⟩ := H.out.at (k := k) (by rw [HN.out]; exact hkl)
        have HR := Lib.hid (range_below hr HW.out hbl)
        have H20 := Lib.hid h20
        have hxm := List.mem_of_getElem? hp
        have hgx := HG.out x hxm
        obtain ⟨hmo, hno⟩ := HEACH.out x hxm
        have hz := zero_ent
        have HI := Lib.hid (ent_info x h20)
        have HL := Lib.hid (ent_infoL x h20)
        have HS : Hid ((entA noEnt).size = (entA x).size) := by show _ = _; rw [entA_size _ h20, entA_size _ zeros20_len]
        have HZN : Hid ((wr.alloc (.cells (entA noEnt) 30)).heap[wr.heap.size]? = some (.cells (entA noEnt) 30 (0, 0))) := heap_alloc_new _ _
        have hb2 : Below wr.heap.size wr ((wr.alloc (.cells (entA noEnt) 30)).setRow wr.heap.size (entA x)) := below_setRow ((Below.refl _ _).alloc (Nat.le_refl _) _) (Nat.le_refl _) _
        have HBW := Lib.hid (HW.out.trans (hb2.mono HW.out.size))
        have HBX := Lib.hid (setRow_heap _ _ _ (entA x) _ _ HZN.out)
        have HBL : Hid (wr.heap.size < ((wr.alloc (.cells (entA noEnt) 30)).setRow wr.heap.size (entA x)).heap.size) := (Array.getElem?_eq_some_iff.1 HBX.out).1
        have HMI := Lib.hid (HM.out.below hb2)
        have HOWN : Hid (some wr.heap.size ≠ (Value.slice va (textT (xs.take k)).length vc).ownBlock) := fun e => by
          have := (HM.out.own_lt e.symm).2
          omega
        have HDG0 := fun W (hW : Below w.heap.size w W) => digitsOf_any x.k hmo W (HE.out.below hW)
        have HLT : Hid (textT (xs.take (k + 1)) = textT (xs.take k) ++ (digitsL x.k ++ 32 :: (x.p.data.toList ++ [0])) ++ bytesI x.n) := by
          show _ = _
          rw [textT_snoc hp]
          unfold lineT
          simp
        have HNI := Lib.hid (nums_id x.n hgx.2)
        have HBT := Lib.hid hgx.2
        have hdl := (mode_digits hmo).2.2.2
        have hpl := (nameOk_parts hno).2.1
        rw [← Lib.size_eq] at hpl
        have hds : (txt (digitsL x.k)).size ≤ 6 := by rw [txt_size]; exact hdl
        have hst : txt (digitsL x.k) ++ (⟨#[32]⟩ : ByteArray) ++ x.p ++ (⟨#[0]⟩ : ByteArray) = txt (digitsL x.k ++ 32 :: (x.p.data.toList ++ [0])) := bytes_ext (by
          rw [txt_list]
          simp only [ByteArray.data_append, Array.toList_append, txt_list]
          simp)
        obtain ⟨D, hD⟩ : ∃ d, txt (digitsL x.k) = d := ⟨_, rfl⟩
        rw [hD] at hds hst HDG0
        have HDG := Lib.hid HDG0
        clear HDG0
        obtain ⟨s1, e1⟩ : ∃ s, D ++ (⟨#[32]⟩ : ByteArray) = s := ⟨_, rfl⟩
        obtain ⟨s2, e2⟩ : ∃ s, s1 ++ x.p = s := ⟨_, rfl⟩
        obtain ⟨s3, e3⟩ : ∃ s, s2 ++ (⟨#[0]⟩ : ByteArray) = s := ⟨_, rfl⟩
        have z1 : s1.size = D.size + 1 := by rw [← e1, ByteArray.size_append]; rfl
        have z2 : s2.size = D.size + 1 + x.p.size := by rw [← e2, ByteArray.size_append, z1]
        have z3 : s3.size = D.size + 1 + x.p.size + 1 := by rw [← e3, ByteArray.size_append, z2]; rfl
        have ha1 := add_str D ⟨#[32]⟩ (by show _ + 1 ≤ _; omega)
        have ha2 := add_str s1 x.p (by omega)
        have ha3 := add_str s2 ⟨#[0]⟩ (by show _ + 1 ≤ _; omega)
        rw [e1] at ha1 hst
        rw [e2] at ha2 hst
        rw [e3] at ha3 hst
        have HS3 : Hid (s3.size ≤ 263) := by show _ ≤ _; omega
        have HST := Lib.hid hst
        have HKL := Lib.hid hkl
        have HMB : Hid ((textT (xs.take k)).length ≤ 28300000) := by show _ ≤ _; have := HTLA.out k; have := HNB.out; omega
        have hsid := fun W => slice_id wr.heap.size 2 W
        have HSID := Lib.hid hsid
        obtain ⟨v, hv⟩ : ∃ v, Value.slice va (textT (xs.take k)).length vc = v := ⟨_, rfl⟩
        rw [hv] at HMI HOWN ⊢
        obtain ⟨T, hT⟩ : ∃ t, textT (xs.take k) = t := ⟨_, rfl⟩
        rw [hT] at HMI HMB HLT
        obtain ⟨m, hm⟩ : ∃ m, T.length = m := ⟨_, rfl⟩
        rw [hm] at HMI HMB
        have HTM := Lib.hid hm
        clear hr hbl h20 hp hgx hxm hmo hno hb2 hkl hkn hdl hpl hds hst hD e1 e2 e3 z1 z2 z3 hv hT hm hsid HM
        go_wp2_with (first
          | refine wpList_ent rfl 30 _ rfl b (off + k * 22) rfl x _ HR.out Tryd.underlying30 rfl HL.out ?_
          | refine wpList_store_row rfl 30 _ _ rfl wr.heap.size (entA x) rfl rfl 30 (entA noEnt) HZN.out HI.out HS.out (entA_one _) ?_)
        clear HZN HR hz HW
        generalize (wr.alloc (.cells (entA noEnt) 30)).setRow wr.heap.size (entA x) = wb at *
        generalize wr.heap.size = bx at *
        have HDG2 : Hid (∀ W, Below wb.heap.size wb W → Calls Tryd.prog 22 #[.int .i64 x.k] W fun e w' => e = .returned (.string D) ∧ Below W.heap.size W w') := fun W hW => HDG.out W (HBW.out.trans (hW.mono HBW.out.size))
        refine wp_region_noPanic ?_
        refine wp_region_held_drew (S := fun W => W.heap[bx]? = some (.cells (entA x) 30 (0, 0))) (by kernel_rfl) ?_ (fun hHeld => ?_)
        · exact HBX.out
        refine wpAnyH_take (i := 0) (v := ?_) (by simp only [List.getElem?_toArray, List.getElem?_cons_zero]; rfl) (by kernel_rfl) (by kernel_rfl) (by kernel_rfl) (fun _ _ _ h => h) (Or.inl ⟨by rfl, ?_⟩) (by assumption) ?_
        rotate_left
        · intro W hSW
          go_simp
          try with_reducible rfl
        try simp only [Act.put, List.setIfInBounds_toArray, List.set_cons_zero, List.set_cons_succ]
        refine wpAnyH_take (i := 1) (v := ?_) (by simp only [List.getElem?_toArray, List.getElem?_cons_succ, List.getElem?_cons_zero]; rfl) (by kernel_rfl) (by kernel_rfl) (by kernel_rfl) (fun _ _ _ h => h) (Or.inl ⟨by rfl, ?_⟩) (by assumption) ?_
        rotate_left
        · intro W hSW
          go_simp
          try with_reducible rfl
        try simp only [Act.put, List.setIfInBounds_toArray, List.set_cons_zero, List.set_cons_succ]
        refine wpAnyH_take (i := 2) (by simp only [List.getElem?_toArray, List.getElem?_cons_succ, List.getElem?_cons_zero]; rfl) (by kernel_rfl) (by kernel_rfl) (by kernel_rfl) (fun _ _ _ h => h) (yieldsIf_load_int (by rfl) 3 _ rfl bx 0 rfl x.k (fun W hSW => range_mode (row_ent hSW)) Tryd.underlying3) (by assumption) ?_
        try simp only [Act.put, List.setIfInBounds_toArray, List.set_cons_zero, List.set_cons_succ]
        refine wpAnyH_take (i := 5) (v := ?_) (by simp only [List.getElem?_toArray, List.getElem?_cons_succ, List.getElem?_cons_zero]; rfl) (by kernel_rfl) (by kernel_rfl) (by kernel_rfl) (fun _ _ _ h => h) (Or.inl ⟨by rfl, ?_⟩) (by assumption) ?_
        rotate_left
        · intro W hSW
          go_simp
          try with_reducible rfl
        try simp only [Act.put, List.setIfInBounds_toArray, List.set_cons_zero, List.set_cons_succ]
        refine wpAnyH_take (i := 6) (by simp only [List.getElem?_toArray, List.getElem?_cons_succ, List.getElem?_cons_zero]; rfl) (by kernel_rfl) (by kernel_rfl) (by kernel_rfl) (fun _ _ _ h => h) (yieldsIf_load_str (by rfl) 9 _ rfl bx 1 rfl x.p (fun W hSW => by have := range_name (row_ent hSW); rwa [Nat.zero_add] at this) Tryd.underlying9) (by assumption) ?_
        try simp only [Act.put, List.setIfInBounds_toArray, List.set_cons_zero, List.set_cons_succ]
        refine wpAnyH_ready (rs := [3]) (by kernel_rfl) (by simp) ?_
        refine AllReadyH.cons (by simp only [List.getElem?_toArray, List.getElem?_cons_succ, List.getElem?_cons_zero]; rfl) (fun K hK => ?_) AllReadyH.nil
        go_simp
        refine (HDG2.out _ (Below.refl _ _).drew).mono ?_
        rintro e v1 ⟨rfl, hb⟩
        have hb1 : Below wb.heap.size wb v1 := (Below.refl _ _).drew.trans hb
        have HB1 := Lib.hid (HBW.out.trans (hb1.mono HBW.out.size))
        have HBX1 := Lib.hid ((hb1.block bx HBL.out).trans HBX.out)
        have HM1 := Lib.hid (HMI.out.below hb1)
        clear hb hb1
        go_wp2_with fail
        refine hK.out _ _ (HBX1.out) (fun hHeld2 => ?_)
        clear hK K hHeld
        have hHeld := hHeld2
        clear hHeld2
        try simp only [Act.put, List.setIfInBounds_toArray, List.set_cons_zero, List.set_cons_succ]
        refine wpAnyH_take (i := 4) (v := ?_) (by simp only [List.getElem?_toArray, List.getElem?_cons_succ, List.getElem?_cons_zero]; rfl) (by kernel_rfl) (by kernel_rfl) (by kernel_rfl) (fun _ _ _ h => h) (Or.inl ⟨by rfl, ?_⟩) (by assumption) ?_
        rotate_left
        · intro W hSW
          go_simp
          try with_reducible rfl
        try simp only [Act.put, List.setIfInBounds_toArray, List.set_cons_zero, List.set_cons_succ]
        refine wpAnyH_take (i := 7) (v := ?_) (by simp only [List.getElem?_toArray, List.getElem?_cons_succ, List.getElem?_cons_zero]; rfl) (by kernel_rfl) (by kernel_rfl) (by kernel_rfl) (fun _ _ _ h => h) (Or.inl ⟨by rfl, ?_⟩) (by assumption) ?_
        rotate_left
        · intro W hSW
          go_simp
          try with_reducible rfl
        try simp only [Act.put, List.setIfInBounds_toArray, List.set_cons_zero, List.set_cons_succ]
        refine wpAnyH_take (i := 8) (v := ?_) (by simp only [List.getElem?_toArray, List.getElem?_cons_succ, List.getElem?_cons_zero]; rfl) (by kernel_rfl) (by kernel_rfl) (by kernel_rfl) (fun _ _ _ h => h) (Or.inl ⟨by rfl, ?_⟩) (by assumption) ?_
        rotate_left
        · intro W hSW
          go_simp
          try with_reducible rfl
        try simp only [Act.put, List.setIfInBounds_toArray, List.set_cons_zero, List.set_cons_succ]
        refine wpAnyH_ready (rs := [9]) (by kernel_rfl) (by simp) ?_
        refine AllReadyH.cons (by simp only [List.getElem?_toArray, List.getElem?_cons_succ, List.getElem?_cons_zero]; rfl) (fun K hK => ?_) AllReadyH.nil
        refine step_append_mid rfl _ _ 9 rfl w.heap.size v m _ rfl HM1.out (.string s3) s3.size (numsOf s3) rfl (by rw [nums_cells]; exact Src.ofString _ Tryd.underlying9 s3) (by have := HMB.out; have := HS3.out; omega) HB1.out.size ?_
        rintro v2 w2 hm2 hg2 -
        have HM2 := Lib.hid hm2
        have HB2 := Lib.hid (HB1.out.trans (HM1.out.off HB1.out.size hg2))
        have HBX2 := Lib.hid ((hg2.block bx (Array.getElem?_eq_some_iff.1 HBX1.out).1 HOWN.out).trans HBX1.out)
        clear hm2 hg2
        refine hK.out _ _ (HBX2.out) (fun hHeld2 => ?_)
        clear hK K hHeld
        have hHeld := hHeld2
        clear hHeld2
        try simp only [Act.put, List.setIfInBounds_toArray, List.set_cons_zero, List.set_cons_succ]
        refine wpAnyH_take (i := 10) (v := ?_) (by simp only [List.getElem?_toArray, List.getElem?_cons_succ, List.getElem?_cons_zero]; rfl) (by kernel_rfl) (by kernel_rfl) (by kernel_rfl) (fun _ _ _ h => h) (Or.inl ⟨by rfl, ?_⟩) (by assumption) ?_
        rotate_left
        · intro W hSW
          go_simp
          try with_reducible rfl
        try simp only [Act.put, List.setIfInBounds_toArray, List.set_cons_zero, List.set_cons_succ]
        refine wpAnyH_done (by kernel_rfl) ?_ _
        refine NoPanic.normal ?_
        clear hHeld ha1 ha2 ha3
        have hb20 : Bytes w2 (some ⟨bx, 2, none⟩) 20 x.n := by
          have hrg := range_id (row_ent HBX2.out)
          rw [Nat.zero_add] at hrg
          refine ⟨H20.out, by omega, range_of_mem HBT.out, .inr ⟨bx, 2, rfl, fun j hj => hrg j _ ?_⟩⟩
          unfold U8
          have h20 := H20.out
          rw [List.getElem?_map, List.getElem?_eq_getElem (by omega)]
          rfl
        have HB20 := Lib.hid hb20
        have hsid := HSID.out
        have tok : True := trivial
        clear hb20
        go_wp2_with (have _t := tok; at_builtin; clear tok; refine Hid.out ?_)
        refine unhid ?_
        refine wpList_append_mid rfl _ _ 39 rfl w.heap.size v2 (m + s3.size) _ rfl HM2.out (.slice (some ⟨bx, 2, none⟩) 20 20) 20 x.n rfl (src_bytes HB20.out) (by have := HMB.out; have := HS3.out; omega) HB2.out.size (fun v3 w3 hm3 hg3 _ => ?_)
        have HB3 := Lib.hid (HB2.out.trans (HM2.out.off HB2.out.size hg3))
        have HM3 : Hid (Mid w3 w.heap.size v3 (textT (xs.take (k + 1))).length (numsOf (txt (textT (xs.take (k + 1)))))) := by
          show Mid _ _ _ _ _
          have e1 : numsOf (txt (textT (xs.take (k + 1)))) = numsOf (txt T) ++ numsOf s3 ++ x.n := by
            rw [HLT.out, numsOf_app, numsOf_app, HNI.out, HST.out]
          have e2 : (textT (xs.take (k + 1))).length = m + s3.size + 20 := by
            rw [HLT.out, List.length_append, List.length_append, HTM.out, bytesI_len, H20.out, HST.out, txt_size]
          rw [e1, e2]
          exact hm3
        clear hm3 hg3
        go_wp2_with fail
        exact ⟨⟨k + 1, by have := HKL.out; omega, by first | rw [WK.out _ rfl] | rfl, HM3.out, HB3.out⟩, by have := HKL.out; (first | rw [WK.out _ rfl] | skip); simp [intOf]; omega⟩
end Go.Proofs.YthemolkmciofaaaDoor
