/- The law CommitTags. -/
import Derived.Test.YtindmggmblmmcaaGreatDoorTgRef
import Derived.Test.YtindmggmblmmcaaGreatDoorCoLawM
import Derived.Test.YtindmggmblmmcaaGreatDoorEq
namespace Go.Proofs.YtindmggmblmmcaaGreatDoor
open Go.RowKit Plain Go.ChangeShapes Go.WideShapes Go.ChangeAt Go.Great
set_option linter.unusedVariables false
set_option linter.unusedSimpArgs false
set_option maxRecDepth 100000 in
theorem eql_tag (x : TX) (h : x.o.length = 20) (w : World) : (binOp .eql 50 (.agg (tgA x)) (.agg (tgA x))).run Tryz.prog w = .ok (.bool true) w := by
  obtain ⟨f1, f2, f3, f4, f5, hf, ⟨n1, n2, n3, n4, n5⟩, ⟨t1, o1⟩, ⟨t2, o2⟩, ⟨t3, o3⟩, ⟨t4, o4⟩, t5, o5⟩ := fields_tag
  have e : (Op.equalIn (9995 + 5) 50 (.agg (tgA x)) (.agg (tgA x))).run Tryz.prog w = .ok true w := by
    rw [run_equalIn_struct w (9995 + 4) 50 _ _ Tryz.underlying50 (by kernel_rfl), hf]
    refine eqFields_self _ _ _ _ _ fun f hm => ?_
    simp only [List.mem_cons, List.not_mem_nil, or_false] at hm
    rcases hm with rfl | rfl | rfl | rfl | rfl
    · refine ⟨n1, .agg (V8 x.o), by rw [t1, o1]; exact part_agg w 29 20 _ 0 _ (by kernel_rfl) (by kernel_rfl) (tg_ext_o x h), ?_⟩
      obtain ⟨i, hi, -⟩ := Option.map_eq_some_iff.1 (show (Tryz.prog.info? 5).map (fun i => (i.zero, i.size, i.bytes)) = some (some (.int .u8 0), 1, 1) from by kernel_rfl)
      rw [t1, run_equalIn_array w (9995 + 3) (V8 x.o) (V8 x.o) Tryz.underlying29 hi, u8cells]
      exact eqItems_self8 _ w x.o _ fun j hj => by have := List.mem_range.1 hj; omega
    · exact ⟨n2, .int .i64 x.k, by rw [t2, o2]; exact run_part_plain w (by kernel_rfl) (tg_at x h 0 _ rfl), by rw [t2, run_equalIn_int w (9995 + 3) 3 .i64 .i64 x.k x.k Tryz.underlying3, beq_self_eq_true]⟩
    · exact ⟨n3, .string x.n, by rw [t3, o3]; exact run_part_plain w (by kernel_rfl) (tg_at x h 1 _ rfl), by rw [t3, run_equalIn_string w (9995 + 3) 9 x.n x.n Tryz.underlying9, beq_self_eq_true]⟩
    · exact ⟨n4, .agg (whoA x.t), by rw [t4, o4]; exact part_agg w 31 4 _ 22 _ (by kernel_rfl) (by kernel_rfl) (tg_ext_t x h), by rw [t4]; exact eqin_who 9995 w x.t⟩
    · exact ⟨n5, .string x.m, by rw [t5, o5]; exact run_part_plain w (by kernel_rfl) (tg_at x h 6 _ rfl), by rw [t5, run_equalIn_string w (9995 + 3) 9 x.m x.m Tryz.underlying9, beq_self_eq_true]⟩
  rw [run_eql_struct]
  rw [show (9995 + 5 : Nat) = 10000 from rfl] at e
  rw [e]
  rfl
theorem guarde_tag (x y : Operand) (u v : Array Value) (W : World) : (eqGuard .eql 50 x y (.agg u) (.agg v)).run Tryz.prog W = .ok () W := by simp [eqGuard]
set_option maxRecDepth 100000 in
set_option maxHeartbeats 32000000 in
theorem lawtags_any (x : TX) (w : World) (hE : EnvC w) (hi : InTag x) : Calls Tryz.prog 5 #[.agg (tgA x)] w fun e w' => e = .returned (.bool true) ∧ Below w.heap.size w w' := by
  have HE := Lib.hid hE
  have H20 := Lib.hid hi.good.1
  obtain ⟨hg, hs, hpl⟩ := few_tag hi
  have HTO := Lib.hid (totag_any x (w.alloc (.cells (tgA x) 54)) hi.good.1)
  obtain ⟨F, hF⟩ : ∃ F, fewT x = F := ⟨_, rfl⟩
  rw [hF] at hg hs hpl HTO
  have HG := Lib.hid hg
  have HSM := Lib.hid hs
  have HPL := Lib.hid hpl
  have HF20 := Lib.hid hg.1
  have HB0 : Hid (Below w.heap.size w (w.alloc (.cells (tgA x) 54))) := (Below.refl _ _).alloc (Nat.le_refl _) _
  have HR0 : Hid ((w.alloc (.cells (tgA x) 54)).heap[w.heap.size]? = some (.cells (tgA x) 54 (0, 0))) := heap_alloc_new _ _
  have HTL : Hid ((tgL F).toArray = tgA F) := rfl
  have hzt := zero_tag
  clear hE hi hg hs hpl hF
  go_enter Tryz.func5, Tryz.ntmps5
  go_wp2_with (first
    | refine wpList_load_row rfl 54 _ rfl w.heap.size rfl 54 (tgA x) (0, 0) _ HR0.out Tryz.underlying54 rfl (info_rtagA x H20.out) ?_)
  refine HTO.out.mono ?_
  rintro e w1 ⟨rfl, hb⟩
  have HB1 := Lib.hid (HB0.out.trans (hb.mono HB0.out.size))
  clear hb HTO HR0 HB0
  have HZ1 : Hid ((w1.alloc (.cells (tgA tz) 50)).heap[w1.heap.size]? = some (.cells (tgA tz) 50 (0, 0))) := heap_alloc_new _ _
  have HS1 : Hid (Below w1.heap.size w1 ((w1.alloc (.cells (tgA tz) 50)).setRow w1.heap.size (tgA F))) := below_setRow ((Below.refl _ _).alloc (Nat.le_refl _) _) (Nat.le_refl _) _
  have HR1 : Hid (((w1.alloc (.cells (tgA tz) 50)).setRow w1.heap.size (tgA F)).heap[w1.heap.size]? = some (.cells (tgA F) 50 (0, 0))) := setRow_heap _ _ _ _ _ _ HZ1.out
  go_wp2_with (first
    | refine wpList_store_row rfl 50 _ _ rfl w1.heap.size (tgA F) rfl rfl 50 (tgA tz) HZ1.out (info_tagA F HF20.out) ((tgA_size tz tz_20).trans (tgA_size F HF20.out).symm) (tgA_one _) ?_
    | refine wpList_load_row rfl 50 _ rfl w1.heap.size rfl 50 (tgA F) (0, 0) _ HR1.out Tryz.underlying50 rfl (info_tagA F HF20.out) ?_)
  obtain ⟨w2, hw1⟩ : ∃ Wn, (w1.alloc (.cells (tgA tz) 50)).setRow w1.heap.size (tgA F) = Wn := ⟨_, rfl⟩
  rw [hw1] at HS1 HR1 ⊢
  obtain ⟨xb, hb1⟩ : ∃ x, w1.heap.size = x := ⟨_, rfl⟩
  rw [hb1] at HR1 ⊢
  clear hw1 HZ1
  clear hb1
  have HB2 := Lib.hid (HB1.out.trans (HS1.out.mono HB1.out.size))
  refine (tgprint_any F w2 HG.out HSM.out (HE.out.below HB2.out)).mono ?_
  rintro e w3 ⟨hpr, hb⟩
  have HB3 := Lib.hid (HB2.out.trans (hb.mono HB2.out.size))
  have HXR3 := Lib.hid ((hb.block xb (Array.getElem?_eq_some_iff.1 HR1.out).1).trans HR1.out)
  clear hb HR1
  rcases hpr with ⟨hrt, pa, pc, rfl, hcap, hby⟩ | ⟨hrt, rfl⟩
  · obtain ⟨pn, hpn⟩ : ∃ n, (printT F).length = n := ⟨_, rfl⟩
    rw [hpn] at hby hcap HPL ⊢
    have HPN := Lib.hid hpn
    have HBY := Lib.hid hby
    have HRT := Lib.hid hrt
    clear hpn hby hrt hcap
    go_wp2_with (first
      | refine wpList_load_row rfl 50 _ rfl xb rfl 50 (tgA F) (0, 0) _ HXR3.out Tryz.underlying50 rfl (info_tagA F HF20.out) ?_)
    refine (oftag_any F w3 HF20.out).mono ?_
    rintro e w4 ⟨rfl, hb⟩
    have HB4 := Lib.hid (HB3.out.trans (hb.mono HB3.out.size))
    have HXR4 := Lib.hid ((hb.block xb (Array.getElem?_eq_some_iff.1 HXR3.out).1).trans HXR3.out)
    have HF34 := Lib.hid hb
    clear hb HXR3
    go_wp2_with fail
    refine (rrighttag_any F w4 HF20.out HSM.out.2.1 (by have := HSM.out.1; omega)).mono ?_
    rintro e w5 ⟨rfl, hb⟩
    rw [HRT.out]
    have HB5 := Lib.hid (HB4.out.trans (hb.mono HB4.out.size))
    have HXR5 := Lib.hid ((hb.block xb (Array.getElem?_eq_some_iff.1 HXR4.out).1).trans HXR4.out)
    have HF35 := Lib.hid (HF34.out.trans (hb.mono HF34.out.size))
    clear hb HXR4 HF34
    go_wp2_with fail
    refine (tgparse_any pa pn pc (printT F) w5 (HBY.out.below HF35.out) HPL.out (HE.out.below HB5.out) (some F) (tag_print HG.out HRT.out)).mono ?_
    rintro e w6 ⟨hpo, hb⟩
    obtain rfl := hpo
    have HB6 := Lib.hid (HB5.out.trans (hb.mono HB5.out.size))
    have HXR6 := Lib.hid ((hb.block xb (Array.getElem?_eq_some_iff.1 HXR5.out).1).trans HXR5.out)
    have HF36 := Lib.hid (HF35.out.trans (hb.mono HF35.out.size))
    clear hb HXR5 HF35
    have HZ6 : Hid ((w6.alloc (.cells (tgA tz) 50)).heap[w6.heap.size]? = some (.cells (tgA tz) 50 (0, 0))) := heap_alloc_new _ _
    have HS6 : Hid (Below w6.heap.size w6 ((w6.alloc (.cells (tgA tz) 50)).setRow w6.heap.size (tgA F))) := below_setRow ((Below.refl _ _).alloc (Nat.le_refl _) _) (Nat.le_refl _) _
    have HR6 : Hid (((w6.alloc (.cells (tgA tz) 50)).setRow w6.heap.size (tgA F)).heap[w6.heap.size]? = some (.cells (tgA F) 50 (0, 0))) := setRow_heap _ _ _ _ _ _ HZ6.out
    have HXR7 := Lib.hid ((HS6.out.block xb (Array.getElem?_eq_some_iff.1 HXR6.out).1).trans HXR6.out)
    have HF37 := Lib.hid (HF36.out.trans (HS6.out.mono HF36.out.size))
    clear HXR6
    go_wp2_with (first
      | refine wpList_store_row rfl 50 _ _ rfl w6.heap.size (tgA F) rfl rfl 50 (tgA tz) HZ6.out (info_tagA F HF20.out) ((tgA_size tz tz_20).trans (tgA_size F HF20.out).symm) (tgA_one _) ?_)
    obtain ⟨w7, hw6⟩ : ∃ Wn, (w6.alloc (.cells (tgA tz) 50)).setRow w6.heap.size (tgA F) = Wn := ⟨_, rfl⟩
    rw [hw6] at HS6 HR6 HXR7 HF37 ⊢
    obtain ⟨yb, hb6⟩ : ∃ x, w6.heap.size = x := ⟨_, rfl⟩
    rw [hb6] at HR6 ⊢
    clear hw6 HZ6
    clear hb6
    have HB7 := Lib.hid (HB6.out.trans (HS6.out.mono HB6.out.size))
    have HTX : Hid (∀ W, Below w7.heap.size w7 W → (convert 37 9 (.slice pa pn pc)).run Tryz.prog W = .ok (.string (txt (printT F))) W) := fun W hW => by
      have := text_run W pa pn pc _ (HBY.out.below (HF37.out.trans (hW.mono HF37.out.size)))
      rwa [str_nums] at this
    have HLxb : Hid (∀ W, Below w7.heap.size w7 W → TgRow W xb F) := fun W hW => TgRow.of ((hW.block xb (Array.getElem?_eq_some_iff.1 HXR7.out).1).trans HXR7.out) HF20.out
    have HLyb : Hid (∀ W, Below w7.heap.size w7 W → TgRow W yb F) := fun W hW => TgRow.of ((hW.block yb (Array.getElem?_eq_some_iff.1 HR6.out).1).trans HR6.out) HF20.out
    have HSE := Lib.hid (eq_self (txt (printT F)))
    rw [← HPN.out] at HPL
    clear HXR7 HR6 HBY HB6 HB5 HB4 HB3 HB2 HB1 HF36 HF37
    go_wp2_with fail
    refine wp_region_noPanic ?_
    refine wp_region_held_drew (S := fun W => Below w7.heap.size w7 W) (by kernel_rfl) ?_ (fun hHeld => ?_)
    · exact (Below.refl _ _).drew
    refine wpAnyH_ready (rs := [0]) (by kernel_rfl) (by simp) ?_
    refine AllReadyH.cons (by simp only [List.getElem?_toArray, List.getElem?_cons_zero]; rfl) (fun K hK => ?_) AllReadyH.nil
    go_simp
    refine (known_any _ (HE.out.below (HB7.out.trans ((Below.refl w7.heap.size w7).drew.mono HB7.out.size)))).mono ?_
    rintro e v0 ⟨rfl, hb⟩
    have hv0 : Below w7.heap.size w7 v0 := (Below.refl _ _).drew.trans hb
    have HV0 := Lib.hid hv0
    clear hb hv0
    go_wp2_with fail
    refine hK.out _ _ (HV0.out) (fun hHeld2 => ?_)
    clear hK K hHeld
    have hHeld := hHeld2
    clear hHeld2
    try simp only [Act.put, List.setIfInBounds_toArray, List.set_cons_zero, List.set_cons_succ]
    refine wpAnyH_take (i := 1) (v := ?_) (by simp only [List.getElem?_toArray, List.getElem?_cons_succ, List.getElem?_cons_zero]; rfl) (by kernel_rfl) (by kernel_rfl) (by kernel_rfl) (fun _ _ _ h => h) (Or.inl ⟨by rfl, ?_⟩) (by assumption) ?_
    rotate_left
    · intro W hSW
      go_simp
      try with_reducible rfl
    try simp only [Act.put, List.setIfInBounds_toArray, List.set_cons_zero, List.set_cons_succ]
    refine wpAnyH_take (i := 2) (v := ?_) (by simp only [List.getElem?_toArray, List.getElem?_cons_succ, List.getElem?_cons_zero]; rfl) (by kernel_rfl) (by kernel_rfl) (by kernel_rfl) (fun _ _ _ h => h) (Or.inl ⟨by rfl, ?_⟩) (by assumption) ?_
    rotate_left
    · intro W hSW
      go_simp
      try with_reducible rfl
    try simp only [Act.put, List.setIfInBounds_toArray, List.set_cons_zero, List.set_cons_succ]
    refine wpAnyH_take (i := 3) (v := ?_) (by simp only [List.getElem?_toArray, List.getElem?_cons_succ, List.getElem?_cons_zero]; rfl) (by kernel_rfl) (by kernel_rfl) (by kernel_rfl) (fun _ _ _ h => h) (Or.inl ⟨by rfl, ?_⟩) (by assumption) ?_
    rotate_left
    · intro W hSW
      go_simp
      try with_reducible rfl
    try simp only [Act.put, List.setIfInBounds_toArray, List.set_cons_zero, List.set_cons_succ]
    refine wpAnyH_take (i := 4) (v := ?_) (by simp only [List.getElem?_toArray, List.getElem?_cons_succ, List.getElem?_cons_zero]; rfl) (by kernel_rfl) (by kernel_rfl) (by kernel_rfl) (fun _ _ _ h => h) (Or.inl ⟨by rfl, ?_⟩) (by assumption) ?_
    rotate_left
    · intro W hSW
      go_simp
      try with_reducible rfl
    try simp only [Act.put, List.setIfInBounds_toArray, List.set_cons_zero, List.set_cons_succ]
    refine wpAnyH_take (i := 5) (v := ?_) (by simp only [List.getElem?_toArray, List.getElem?_cons_succ, List.getElem?_cons_zero]; rfl) (by kernel_rfl) (by kernel_rfl) (by kernel_rfl) (fun _ _ _ h => h) (Or.inl ⟨by rfl, ?_⟩) (by assumption) ?_
    rotate_left
    · intro W hSW
      go_simp
      try with_reducible rfl
    try simp only [Act.put, List.setIfInBounds_toArray, List.set_cons_zero, List.set_cons_succ]
    refine wpAnyH_take (i := 6) (v := ?_) (by simp only [List.getElem?_toArray, List.getElem?_cons_succ, List.getElem?_cons_zero]; rfl) (by kernel_rfl) (by kernel_rfl) (by kernel_rfl) (fun _ _ _ h => h) (Or.inl ⟨by rfl, ?_⟩) (by assumption) ?_
    rotate_left
    · intro W hSW
      go_simp
      try with_reducible rfl
    try simp only [Act.put, List.setIfInBounds_toArray, List.set_cons_zero, List.set_cons_succ]
    refine wpAnyH_take (i := 7) (by simp only [List.getElem?_toArray, List.getElem?_cons_succ, List.getElem?_cons_zero]; rfl) (by kernel_rfl) (by kernel_rfl) (by kernel_rfl) (fun _ _ _ h => h) (yieldsIf_conv (by rfl) 37 9 _ rfl (.slice pa pn pc) rfl (.string (txt (printT F))) (fun W hSW => HTX.out W hSW)) (by assumption) ?_
    try simp only [Act.put, List.setIfInBounds_toArray, List.set_cons_zero, List.set_cons_succ]
    refine wpAnyH_take (i := 8) (by simp only [List.getElem?_toArray, List.getElem?_cons_succ, List.getElem?_cons_zero]; rfl) (by kernel_rfl) (by kernel_rfl) (by kernel_rfl) (fun _ _ _ h => h) (yieldsIf_load_mid (by rfl) 50 _ rfl xb 0 rfl (tgL F) _ (fun W hSW => (HLxb.out W hSW).cells) Tryz.underlying50 rfl (info_tag F HF20.out)) (by assumption) ?_
    try simp only [Act.put, List.setIfInBounds_toArray, List.set_cons_zero, List.set_cons_succ]
    try rw [HTL.out]
    refine wpAnyH_ready (rs := [9]) (by kernel_rfl) (by simp) ?_
    refine AllReadyH.cons (by simp only [List.getElem?_toArray, List.getElem?_cons_succ, List.getElem?_cons_zero]; rfl) (fun K hK => ?_) AllReadyH.nil
    go_simp
    refine (oftag_any F _ HF20.out).mono ?_
    rintro e v1 ⟨rfl, hb⟩
    have hv1 : Below w7.heap.size w7 v1 := HV0.out.trans (hb.mono HV0.out.size)
    have HV1 := Lib.hid hv1
    clear hb hv1
    go_wp2_with fail
    refine hK.out _ _ (HV1.out) (fun hHeld2 => ?_)
    clear hK K hHeld
    have hHeld := hHeld2
    clear hHeld2
    try simp only [Act.put, List.setIfInBounds_toArray, List.set_cons_zero, List.set_cons_succ]
    refine wpAnyH_ready (rs := [10]) (by kernel_rfl) (by simp) ?_
    refine AllReadyH.cons (by simp only [List.getElem?_toArray, List.getElem?_cons_succ, List.getElem?_cons_zero]; rfl) (fun K hK => ?_) AllReadyH.nil
    go_simp
    refine (rprinttag_any F _ HG.out HSM.out.2.1 (HE.out.below (HB7.out.trans (HV1.out.mono HB7.out.size))) (by have := HPL.out; omega)).mono ?_
    rintro e v2 ⟨rfl, hb⟩
    have hv2 : Below w7.heap.size w7 v2 := HV1.out.trans (hb.mono HV1.out.size)
    have HV2 := Lib.hid hv2
    clear hb hv2
    go_wp2_with fail
    refine hK.out _ _ (HV2.out) (fun hHeld2 => ?_)
    clear hK K hHeld
    have hHeld := hHeld2
    clear hHeld2
    try simp only [Act.put, List.setIfInBounds_toArray, List.set_cons_zero, List.set_cons_succ]
    refine wpAnyH_take (i := 11) (by simp only [List.getElem?_toArray, List.getElem?_cons_succ, List.getElem?_cons_zero]; rfl) (by kernel_rfl) (by kernel_rfl) (by kernel_rfl) (fun _ _ _ h => h) (yieldsIf_eql (by rfl) .eql 9 _ _ _ rfl (.string (txt (printT F))) (.string (txt (printT F))) rfl rfl (.bool true) (guard_eq _ _ _ _) (fun W => HSE.out W)) (by assumption) ?_
    try simp only [Act.put, List.setIfInBounds_toArray, List.set_cons_zero, List.set_cons_succ]
    refine wpAnyH_take (i := 12) (v := ?_) (by simp only [List.getElem?_toArray, List.getElem?_cons_succ, List.getElem?_cons_zero]; rfl) (by kernel_rfl) (by kernel_rfl) (by kernel_rfl) (fun _ _ _ h => h) (Or.inl ⟨by rfl, ?_⟩) (by assumption) ?_
    rotate_left
    · intro W hSW
      go_simp
      try with_reducible rfl
    try simp only [Act.put, List.setIfInBounds_toArray, List.set_cons_zero, List.set_cons_succ]
    refine wpAnyH_take (i := 13) (v := ?_) (by simp only [List.getElem?_toArray, List.getElem?_cons_succ, List.getElem?_cons_zero]; rfl) (by kernel_rfl) (by kernel_rfl) (by kernel_rfl) (fun _ _ _ h => h) (Or.inl ⟨by rfl, ?_⟩) (by assumption) ?_
    rotate_left
    · intro W hSW
      go_simp
      try with_reducible rfl
    try simp only [Act.put, List.setIfInBounds_toArray, List.set_cons_zero, List.set_cons_succ]
    refine wpAnyH_take (i := 14) (v := ?_) (by simp only [List.getElem?_toArray, List.getElem?_cons_succ, List.getElem?_cons_zero]; rfl) (by kernel_rfl) (by kernel_rfl) (by kernel_rfl) (fun _ _ _ h => h) (Or.inl ⟨by rfl, ?_⟩) (by assumption) ?_
    rotate_left
    · intro W hSW
      go_simp
      try with_reducible rfl
    try simp only [Act.put, List.setIfInBounds_toArray, List.set_cons_zero, List.set_cons_succ]
    refine wpAnyH_take (i := 15) (v := ?_) (by simp only [List.getElem?_toArray, List.getElem?_cons_succ, List.getElem?_cons_zero]; rfl) (by kernel_rfl) (by kernel_rfl) (by kernel_rfl) (fun _ _ _ h => h) (Or.inl ⟨by rfl, ?_⟩) (by assumption) ?_
    rotate_left
    · intro W hSW
      go_simp
      try with_reducible rfl
    try simp only [Act.put, List.setIfInBounds_toArray, List.set_cons_zero, List.set_cons_succ]
    refine wpAnyH_take (i := 16) (v := ?_) (by simp only [List.getElem?_toArray, List.getElem?_cons_succ, List.getElem?_cons_zero]; rfl) (by kernel_rfl) (by kernel_rfl) (by kernel_rfl) (fun _ _ _ h => h) (Or.inl ⟨by rfl, ?_⟩) (by assumption) ?_
    rotate_left
    · intro W hSW
      go_simp
      try with_reducible rfl
    try simp only [Act.put, List.setIfInBounds_toArray, List.set_cons_zero, List.set_cons_succ]
    refine wpAnyH_take (i := 17) (v := ?_) (by simp only [List.getElem?_toArray, List.getElem?_cons_succ, List.getElem?_cons_zero]; rfl) (by kernel_rfl) (by kernel_rfl) (by kernel_rfl) (fun _ _ _ h => h) (Or.inl ⟨by rfl, ?_⟩) (by assumption) ?_
    rotate_left
    · intro W hSW
      go_simp
      try with_reducible rfl
    try simp only [Act.put, List.setIfInBounds_toArray, List.set_cons_zero, List.set_cons_succ]
    refine wpAnyH_take (i := 18) (by simp only [List.getElem?_toArray, List.getElem?_cons_succ, List.getElem?_cons_zero]; rfl) (by kernel_rfl) (by kernel_rfl) (by kernel_rfl) (fun _ _ _ h => h) (yieldsIf_load_mid (by rfl) 50 _ rfl xb 0 rfl (tgL F) _ (fun W hSW => (HLxb.out W hSW).cells) Tryz.underlying50 rfl (info_tag F HF20.out)) (by assumption) ?_
    try simp only [Act.put, List.setIfInBounds_toArray, List.set_cons_zero, List.set_cons_succ]
    refine wpAnyH_take (i := 19) (by simp only [List.getElem?_toArray, List.getElem?_cons_succ, List.getElem?_cons_zero]; rfl) (by kernel_rfl) (by kernel_rfl) (by kernel_rfl) (fun _ _ _ h => h) (yieldsIf_load_mid (by rfl) 50 _ rfl yb 0 rfl (tgL F) _ (fun W hSW => (HLyb.out W hSW).cells) Tryz.underlying50 rfl (info_tag F HF20.out)) (by assumption) ?_
    try simp only [Act.put, List.setIfInBounds_toArray, List.set_cons_zero, List.set_cons_succ]
    try rw [HTL.out]
    refine wpAnyH_take (i := 20) (by simp only [List.getElem?_toArray, List.getElem?_cons_succ, List.getElem?_cons_zero]; rfl) (by kernel_rfl) (by kernel_rfl) (by kernel_rfl) (fun _ _ _ h => h) (yieldsIf_eql (by rfl) .eql 50 _ _ _ rfl (.agg (tgA F)) (.agg (tgA F)) rfl rfl (.bool true) (guarde_tag _ _ _ _) (fun W => eql_tag F HF20.out W)) (by assumption) ?_
    try simp only [Act.put, List.setIfInBounds_toArray, List.set_cons_zero, List.set_cons_succ]
    refine wpAnyH_take (i := 21) (v := ?_) (by simp only [List.getElem?_toArray, List.getElem?_cons_succ, List.getElem?_cons_zero]; rfl) (by kernel_rfl) (by kernel_rfl) (by kernel_rfl) (fun _ _ _ h => h) (Or.inl ⟨by rfl, ?_⟩) (by assumption) ?_
    rotate_left
    · intro W hSW
      go_simp
      try with_reducible rfl
    try simp only [Act.put, List.setIfInBounds_toArray, List.set_cons_zero, List.set_cons_succ]
    refine wpAnyH_take (i := 22) (v := ?_) (by simp only [List.getElem?_toArray, List.getElem?_cons_succ, List.getElem?_cons_zero]; rfl) (by kernel_rfl) (by kernel_rfl) (by kernel_rfl) (fun _ _ _ h => h) (Or.inl ⟨by rfl, ?_⟩) (by assumption) ?_
    rotate_left
    · intro W hSW
      go_simp
      try with_reducible rfl
    try simp only [Act.put, List.setIfInBounds_toArray, List.set_cons_zero, List.set_cons_succ]
    refine wpAnyH_done (by kernel_rfl) ?_ _
    refine NoPanic.normal ?_
    clear hHeld
    go_wp2_with fail
    go_ret
    exact ⟨rfl, HB7.out.trans (HV2.out.mono HB7.out.size)⟩
  · have HRT := Lib.hid hrt
    clear hrt
    go_wp2_with (first
      | refine wpList_load_row rfl 50 _ rfl xb rfl 50 (tgA F) (0, 0) _ HXR3.out Tryz.underlying50 rfl (info_tagA F HF20.out) ?_)
    refine (oftag_any F w3 HF20.out).mono ?_
    rintro e w4 ⟨rfl, hb⟩
    have HB4 := Lib.hid (HB3.out.trans (hb.mono HB3.out.size))
    have HXR4 := Lib.hid ((hb.block xb (Array.getElem?_eq_some_iff.1 HXR3.out).1).trans HXR3.out)
    have HF34 := Lib.hid hb
    clear hb HXR3
    go_wp2_with fail
    refine (rrighttag_any F w4 HF20.out HSM.out.2.1 (by have := HSM.out.1; omega)).mono ?_
    rintro e w5 ⟨rfl, hb⟩
    rw [HRT.out]
    have HB5 := Lib.hid (HB4.out.trans (hb.mono HB4.out.size))
    have HXR5 := Lib.hid ((hb.block xb (Array.getElem?_eq_some_iff.1 HXR4.out).1).trans HXR4.out)
    have HF35 := Lib.hid (HF34.out.trans (hb.mono HF34.out.size))
    clear hb HXR4 HF34
    go_wp2_with fail
    refine (known_any w5 (HE.out.below HB5.out)).mono ?_
    rintro e wk ⟨rfl, hbk⟩
    have HBK := Lib.hid (HB5.out.trans (hbk.mono HB5.out.size))
    clear hbk
    go_wp2_with fail
    go_ret
    exact ⟨rfl, HBK.out⟩
end Go.Proofs.YtindmggmblmmcaaGreatDoor
