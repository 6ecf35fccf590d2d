/- MarksTexts: the walk. -/
import Derived.Test.YtlhdjbnilfbaoaaRefMkParse
import Derived.Test.YtlhdjbnilfbaoaaSub
namespace Go.Proofs.Ytlhdjbnilfbaoaa
open Go.RowKit Plain
set_option linter.unusedVariables false
set_option linter.unusedSimpArgs false
theorem yieldsIf_eql {P : Program} {ops : Array Oper} {S : World → Prop} {op : Oper} {a : Act} (hw : Region.wanted op (yielded ops a.tmps) = true) (b : BinOp) (ty : TypeId) (x y : Operand) (tz : TypeId) (ho : op.op = .binOp b ty x y tz)
    (u1 u2 : Value) (h1 : a.eval x = u1) (h2 : a.eval y = u2) (v : Value) (hg : ∀ W, (eqGuard b ty x y u1 u2).run P W = .ok () W) (hr : ∀ W, (binOp b ty u1 u2).run P W = .ok v W) : YieldsIf P ops S op v a := by
  refine .inl ⟨hw, fun W hS => ?_⟩
  unfold execOp
  simp only [ho, h1, h2, Sem.run_bind, hg, hr, Result.andThen_ok]
  rfl
theorem yieldsIf_conv {P : Program} {ops : Array Oper} {S : World → Prop} {op : Oper} {a : Act} (hw : Region.wanted op (yielded ops a.tmps) = true) (t1 t2 : TypeId) (x : Operand) (ho : op.op = .convert t1 t2 x)
    (u : Value) (h1 : a.eval x = u) (v : Value) (hr : ∀ W, S W → (convert t1 t2 u).run P W = .ok v W) : YieldsIf P ops S op v a := by
  refine .inl ⟨hw, fun W hS => ?_⟩
  unfold execOp
  simp [ho, h1, hr W hS]
theorem neq_self (s : ByteArray) (W : World) : (binOp .neq 9 (.string s) (.string s)).run Try.prog W = .ok (.bool false) W := by
  rw [binOp_string_neq]
  simp
theorem marks_text_back {ps : List (List Int)} (h : ∀ p ∈ ps, GoodP p) : pairsL (strOfNums (numsOf (txt (textT ps)))).data.toList = some ps := by
  rw [str_nums, txt_list]
  exact text_back h
set_option maxRecDepth 100000 in
set_option maxHeartbeats 64000000 in
theorem texts_any (a : Option Addr) (c : Nat) (ps0 : List (List Int)) (ba : Option Addr) (bl bc : Nat) (Z : List Int) (w : World) (hE : Env w) (h : PsAt w a ps0) (hn : ps0.length ≤ 9223372036854775807) (hgp : ∀ p ∈ ps0, ∀ x ∈ p, 0 ≤ x ∧ x ≤ 255) (hZ : Bytes w ba bl Z) (hbc : bl ≤ bc) :
    Calls Try.prog 3 #[.slice a ps0.length c, .slice ba bl bc] w fun e w' => e = .returned (.bool true) ∧ Below w.heap.size w w' := by
  have hmin : min (bl : Int) 3000 = ((min bl 3000 : Nat) : Int) := by omega
  have hB1 := hZ.part bc 0 (min bl 3000) (Nat.zero_le _) (by omega) hbc
  obtain ⟨m, hm⟩ : ∃ m, min bl 3000 = m := ⟨_, rfl⟩
  rw [hm] at hmin hB1
  have hm3 : m ≤ 3000 := by omega
  have hmc : m ≤ bc := by omega
  have hsub : subA ba bc 0 = ba := by
    unfold subA
    split
    · rfl
    · cases ba with
      | none => rfl
      | some x => simp [Addr.add]
  rw [List.drop_zero, Nat.sub_zero, hsub] at hB1
  have hsl := fun W => slice_to ba bl bc m hmc W
  generalize Z.take m = T at *
  have HBB := Lib.hid hB1
  have HM3 := Lib.hid hm3
  have HE := Lib.hid hE
  obtain ⟨LT, hLT⟩ : ∃ l, (strOfNums T).data.toList = l := ⟨_, rfl⟩
  have HLT := Lib.hid hLT
  have HLL : Hid (LT.length ≤ 10000000) := by
    show _ ≤ _
    rw [← hLT, strOfNums_data, List.length_map, hB1.1]; omega
  have HF := Lib.hid (few_any a c ps0 w h hn)
  have HG0 : Hid (∀ p ∈ ps0.take 40, GoodP p) := fun p hp => ⟨h.each p (List.mem_of_mem_take hp), hgp p (List.mem_of_mem_take hp)⟩
  have HL40 : Hid ((ps0.take 40).length ≤ 40) := List.length_take_le _ _
  clear hE h hgp hZ hbc hm hm3 hmc hsub hB1 hLT
  generalize ps0.length = n0 at *
  generalize ps0.take 40 = ps at *
  clear hn
  go_enter Try.func3, Try.ntmps3
  go_wp2_with fail
  refine HF.out.mono ?_
  rintro e w1 ⟨⟨v, rfl, ho⟩, hb⟩
  obtain ⟨ma, mc, rfl, hat, -, -⟩ := ho.at
  have HB1 := Lib.hid hb
  have HM := Lib.hid hat
  obtain ⟨n, hnl⟩ : ∃ n, ps.length = n := ⟨_, rfl⟩
  have HN := Lib.hid hnl
  have HN6 : Hid (ps.length ≤ 1000000) := Nat.le_trans HL40.out (by decide)
  have HPT := Lib.hid (mprint_any ma mc ps w1 hat HN6.out (fun p hp => (HG0.out p hp).2))
  rw [hnl] at HPT ⊢
  clear ho hb hat hnl HF
  go_wp2_with fail
  refine HPT.out.mono ?_
  rintro e w2 ⟨hpo, hb⟩
  have HB2 := Lib.hid (HB1.out.trans (hb.mono HB1.out.size))
  have HM2 := Lib.hid (HM.out.below hb)
  have HAS2 := Lib.hid (as_any ma mc ps w2 HM2.out HN6.out)
  rw [HN.out] at HAS2
  clear hb HPT HM
  have hpo2 : if rightP ps = true then ∃ g c, e = .returned (.tuple #[.slice (some ⟨g, 0, none⟩) (textT ps).length c, .int .i64 0]) ∧ w1.heap.size ≤ g ∧ (textT ps).length ≤ c ∧ Bytes w2 (some ⟨g, 0, none⟩) (textT ps).length (numsOf (txt (textT ps))) else e = .returned (.tuple #[.slice none 0 0, .int .i64 9]) := hpo
  clear hpo
  cases hrp : rightP ps
  · rw [hrp, if_neg (by decide)] at hpo2
    subst hpo2
    have HRP := Lib.hid hrp
    clear hrp
    go_wp2_with fail
    refine HAS2.out.mono ?_
    rintro e w3 ⟨⟨v, rfl, ho⟩, hb⟩
    obtain ⟨a3, c3, rfl, hat, -, -⟩ := ho.at
    have HB3 := Lib.hid (HB2.out.trans (hb.mono HB2.out.size))
    have HRT := Lib.hid (rright_any a3 c3 ps w3 hat HN6.out)
    clear ho hb hat HAS2
    go_wp2_with fail
    refine HRT.out.mono ?_
    rintro e w4 ⟨rfl, hb⟩
    have HB4 := Lib.hid (HB3.out.trans (hb.mono HB3.out.size))
    clear hb HRT HB3
    rw [HRP.out]
    go_wp2_with fail
    refine (mparse_any ba m bc T w4 (HBB.out.below HB4.out) (HE.out.below HB4.out) (by have := HM3.out; omega)).mono ?_
    rintro e x1 ⟨hpo, hb⟩
    have HX1 := Lib.hid (HB4.out.trans (hb.mono HB4.out.size))
    clear hb
    have htx := text_run x1 ba m bc T (HBB.out.below HX1.out)
    rw [← txt_of (strOfNums T)] at htx
    rw [HLT.out] at hpo htx
    cases hq : pairsL LT with
    | none =>
      rw [hq] at hpo
      obtain rfl : e = _ := hpo
      have HQ := Lib.hid hq
      clear hq
      go_wp2_with fail
      refine (rparse_any LT x1 HLL.out).mono ?_
      rintro e x2 ⟨hro, hb⟩
      rw [HQ.out] at hro
      obtain rfl : e = _ := hro
      have HX2 := Lib.hid (HX1.out.trans (hb.mono HX1.out.size))
      clear hb htx
      go_wp2_with fail
      refine (known_any _).mono ?_
      rintro e y1 ⟨rfl, hb⟩
      have HY1 := Lib.hid (HX2.out.trans (hb.mono HX2.out.size))
      have HBY1 := Lib.hid hb
      clear hb
      go_wp2_with fail
      refine (as_any none 0 [] y1 ⟨fun p hp => absurd hp (by simp), .inl rfl⟩ (by simp)).mono ?_
      rintro e y2 ⟨⟨v, rfl, ho⟩, hb⟩
      have HY2 := Lib.hid (HY1.out.trans (hb.mono HY1.out.size))
      have HBY2 := Lib.hid hb
      obtain ⟨a3, c3, rfl, hat, -, -⟩ := ho.at
      have HAT := Lib.hid hat
      clear hb ho hat
      go_wp2_with fail
      refine (same_any a3 none c3 0 [] [] y2 HAT.out ⟨fun p hp => absurd hp (by simp), .inl rfl⟩ (by simp) (by simp)).mono ?_
      rintro e y3 ⟨rfl, hb⟩
      have HY3 := Lib.hid (HY2.out.trans (hb.mono HY2.out.size))
      clear hb
      rw [decide_eq_true rfl]
      go_wp2_with fail
      go_ret
      exact ⟨rfl, HY3.out⟩
    | some qs =>
      rw [hq] at hpo
      have hpo2 : if rightP qs = true then ∃ a c, e = .returned (.tuple #[.slice a qs.length c, .int .i64 0]) ∧ OwnP 46 x1 w4.heap.size (.slice a qs.length c) qs else e = .returned (.tuple #[.slice none 0 0, .int .i64 9]) := hpo
      have HQ := Lib.hid hq
      have hql := (pairs_good LT.length (Nat.le_refl _) hq).2
      have HQL : Hid (qs.length ≤ 1000000) := by show _ ≤ _; have := HLL.out; omega
      clear hq hpo hql
      cases hrp : rightP qs
      · rw [hrp, if_neg (by decide)] at hpo2
        subst hpo2
        have HRP := Lib.hid hrp
        clear hrp
        go_wp2_with fail
        refine (rparse_any LT x1 HLL.out).mono ?_
        rintro e x2 ⟨hro, hb⟩
        rw [HQ.out] at hro
        have hro2 : if rightP qs = true then ∃ a c, e = .returned (.tuple #[.slice a qs.length c, .int .i64 0]) ∧ OwnP 44 x2 x1.heap.size (.slice a qs.length c) qs else e = .returned (.tuple #[.slice none 0 0, .int .i64 9]) := hro
        rw [HRP.out, if_neg (by decide)] at hro2
        subst hro2
        have HX2 := Lib.hid (HX1.out.trans (hb.mono HX1.out.size))
        clear hb htx hro
        go_wp2_with fail
        refine (known_any _).mono ?_
        rintro e y1 ⟨rfl, hb⟩
        have HY1 := Lib.hid (HX2.out.trans (hb.mono HX2.out.size))
        have HBY1 := Lib.hid hb
        clear hb
        go_wp2_with fail
        refine (as_any none 0 [] y1 ⟨fun p hp => absurd hp (by simp), .inl rfl⟩ (by simp)).mono ?_
        rintro e y2 ⟨⟨v, rfl, ho⟩, hb⟩
        have HY2 := Lib.hid (HY1.out.trans (hb.mono HY1.out.size))
        have HBY2 := Lib.hid hb
        obtain ⟨a3, c3, rfl, hat, -, -⟩ := ho.at
        have HAT := Lib.hid hat
        clear hb ho hat
        go_wp2_with fail
        refine (same_any a3 none c3 0 [] [] y2 HAT.out ⟨fun p hp => absurd hp (by simp), .inl rfl⟩ (by simp) (by simp)).mono ?_
        rintro e y3 ⟨rfl, hb⟩
        have HY3 := Lib.hid (HY2.out.trans (hb.mono HY2.out.size))
        clear hb
        rw [decide_eq_true rfl]
        go_wp2_with fail
        go_ret
        exact ⟨rfl, HY3.out⟩
      · rw [hrp, if_pos rfl] at hpo2
        obtain ⟨la, lc, rfl, hol⟩ := hpo2
        obtain ⟨la', lc', el, hlat, -, -⟩ := hol.at
        simp only [Value.slice.injEq, true_and] at el
        obtain ⟨rfl, rfl⟩ := el
        have HL := Lib.hid hlat
        have HRP := Lib.hid hrp
        clear hrp hol hlat
        go_wp2_with fail
        refine (rparse_any LT x1 HLL.out).mono ?_
        rintro e x2 ⟨hro, hb⟩
        rw [HQ.out] at hro
        have hro2 : if rightP qs = true then ∃ a c, e = .returned (.tuple #[.slice a qs.length c, .int .i64 0]) ∧ OwnP 44 x2 x1.heap.size (.slice a qs.length c) qs else e = .returned (.tuple #[.slice none 0 0, .int .i64 9]) := hro
        rw [HRP.out, if_pos rfl] at hro2
        obtain ⟨ra, rc, rfl, hor⟩ := hro2
        obtain ⟨ra', rc', er, hrat, -, -⟩ := hor.at
        simp only [Value.slice.injEq, true_and] at er
        obtain ⟨rfl, rfl⟩ := er
        have HR2 := Lib.hid hrat
        have HX2 := Lib.hid (HX1.out.trans (hb.mono HX1.out.size))
        have HBX2 := Lib.hid hb
        clear hb htx hro hor hrat
        go_wp2_with fail
        refine (known_any _).mono ?_
        rintro e y1 ⟨rfl, hb⟩
        have HY1 := Lib.hid (HX2.out.trans (hb.mono HX2.out.size))
        have HBY1 := Lib.hid hb
        clear hb
        go_wp2_with fail
        refine (as_any la lc qs y1 (HL.out.below (HBX2.out.trans (HBY1.out.mono HBX2.out.size))) HQL.out).mono ?_
        rintro e y2 ⟨⟨v, rfl, ho⟩, hb⟩
        have HY2 := Lib.hid (HY1.out.trans (hb.mono HY1.out.size))
        have HBY2 := Lib.hid hb
        obtain ⟨a3, c3, rfl, hat, -, -⟩ := ho.at
        have HAT := Lib.hid hat
        clear hb ho hat
        go_wp2_with fail
        refine (same_any a3 ra c3 rc qs qs y2 HAT.out (HR2.out.below (HBY1.out.trans (HBY2.out.mono HBY1.out.size))) HQL.out HQL.out).mono ?_
        rintro e y3 ⟨rfl, hb⟩
        have HY3 := Lib.hid (HY2.out.trans (hb.mono HY2.out.size))
        clear hb
        rw [decide_eq_true rfl]
        go_wp2_with fail
        go_ret
        exact ⟨rfl, HY3.out⟩
  · rw [hrp, if_pos rfl] at hpo2
    obtain ⟨pg, pc, rfl, -, htc, hby⟩ := hpo2
    have HRP := Lib.hid hrp
    have HBY := Lib.hid hby
    have htl := textT_len (fun p hp => (HG0.out p hp).1)
    obtain ⟨tl, htle⟩ : ∃ l, (textT ps).length = l := ⟨_, rfl⟩
    obtain ⟨tx, htxe⟩ : ∃ s, txt (textT ps) = s := ⟨_, rfl⟩
    have HTB : Hid (pairsL (strOfNums (numsOf tx)).data.toList = some ps) := by show _ = _; rw [← htxe]; exact marks_text_back HG0.out
    have HTS : Hid (strOfNums (numsOf tx) = tx) := str_nums tx
    have HTLB : Hid (tl ≤ 10000000) := by show _ ≤ _; have := HL40.out; omega
    have HPRT : Hid (∀ (a6 : Option Addr) (c6 : Nat) (W : World), PsAt W a6 ps → Calls Try.prog 10 #[.slice a6 n c6] W fun e w' => e = .returned (.string tx) ∧ Below W.heap.size W w') := fun a6 c6 W hat => by
      rw [← HN.out, ← htxe]
      exact rprint_any a6 c6 ps W hat HN6.out (fun p hp => (HG0.out p hp).2)
    have HSAME : Hid (∀ (a8 a9 : Option Addr) (c8 c9 : Nat) (W : World), PsAt W a8 ps → PsAt W a9 ps → Calls Try.prog 11 #[.slice a8 n c8, .slice a9 n c9] W fun e w' => e = .returned (.bool true) ∧ Below W.heap.size W w') := fun a8 a9 c8 c9 W h1 h2 => by
      rw [← HN.out]
      have := same_any a8 a9 c8 c9 ps ps W h1 h2 HN6.out HN6.out
      rw [decide_eq_true rfl] at this
      exact this
    rw [htle] at HBY htc ⊢
    rw [htxe] at HBY
    clear hrp hby htl htle htxe
    go_wp2_with fail
    refine HAS2.out.mono ?_
    rintro e w3 ⟨⟨v, rfl, ho⟩, hb⟩
    obtain ⟨a3, c3, rfl, hat, -, -⟩ := ho.at
    have HB3 := Lib.hid (HB2.out.trans (hb.mono HB2.out.size))
    have HM3' := Lib.hid (HM2.out.below hb)
    have HY3 := Lib.hid (HBY.out.below hb)
    have HRT := Lib.hid (rright_any a3 c3 ps w3 hat HN6.out)
    clear ho hb hat HAS2 HM2 HBY
    go_wp2_with fail
    refine HRT.out.mono ?_
    rintro e w4 ⟨rfl, hb⟩
    have HB4 := Lib.hid (HB3.out.trans (hb.mono HB3.out.size))
    have HM4 := Lib.hid (HM3'.out.below hb)
    have HY4 := Lib.hid (HY3.out.below hb)
    clear hb HRT HB3 HM3' HY3
    rw [HRP.out]
    go_wp2_with fail
    refine (mparse_any (some ⟨pg, 0, none⟩) tl pc (numsOf tx) w4 HY4.out (HE.out.below HB4.out) HTLB.out).mono ?_
    rintro e w5 ⟨hpo, hb⟩
    rw [HTB.out] at hpo
    have hpo2 : if rightP ps = true then ∃ a c, e = .returned (.tuple #[.slice a ps.length c, .int .i64 0]) ∧ OwnP 46 w5 w4.heap.size (.slice a ps.length c) ps else e = .returned (.tuple #[.slice none 0 0, .int .i64 9]) := hpo
    rw [HRP.out, if_pos rfl] at hpo2
    obtain ⟨xa, xc, rfl, hox⟩ := hpo2
    obtain ⟨xa', xc', ex, hxat, -, -⟩ := hox.at
    simp only [Value.slice.injEq, true_and] at ex
    obtain ⟨rfl, rfl⟩ := ex
    have HB5 := Lib.hid (HB4.out.trans (hb.mono HB4.out.size))
    have HM5 := Lib.hid (HM4.out.below hb)
    have HY5 := Lib.hid (HY4.out.below hb)
    have HCV : Hid (∀ W, Below w5.heap.size w5 W → (convert 23 9 (.slice (some ⟨pg, 0, none⟩) tl pc)).run Try.prog W = .ok (.string tx) W) := fun W hW => by
      have := text_run W (some ⟨pg, 0, none⟩) tl pc (numsOf tx) (HY5.out.below hW)
      rw [HTS.out] at this
      exact this
    have HAS : Hid (∀ W, Below w5.heap.size w5 W → Calls Try.prog 8 #[.slice ma n mc] W fun e w' => (∃ v, e = .returned v ∧ OwnP 44 w' W.heap.size v ps) ∧ Below W.heap.size W w') := fun W hW => by
      rw [← HN.out]
      exact as_any ma mc ps W (HM5.out.below hW) HN6.out
    have HAX : Hid (∀ W, Below w5.heap.size w5 W → Calls Try.prog 8 #[.slice xa n xc] W fun e w' => (∃ v, e = .returned v ∧ OwnP 44 w' W.heap.size v ps) ∧ Below W.heap.size W w') := fun W hW => by
      rw [← HN.out]
      exact as_any xa xc ps W (hxat.below hW) HN6.out
    rw [HN.out]
    clear hb hpo hox hxat HB4 HM4 HY4
    go_wp2_with fail
    refine wp_region_noPanic ?_
    refine wp_region_held_drew (S := fun W => Below w5.heap.size w5 W) (by kernel_rfl) ?_ (fun hHeld => ?_)
    · exact (Below.refl _ _).drew
    refine wpAnyH_take (i := 0) (v := ?_) (by simp only [List.getElem?_toArray, List.getElem?_cons_zero]; rfl) (by kernel_rfl) (by kernel_rfl) (by kernel_rfl) (fun _ _ _ h => h) (Or.inl ⟨by rfl, ?_⟩) (by assumption) ?_
    rotate_left
    · intro W hSW
      go_simp
      try with_reducible rfl
    try simp only [Act.put, List.setIfInBounds_toArray, List.set_cons_zero, List.set_cons_succ]
    refine wpAnyH_take (i := 1) (v := ?_) (by simp only [List.getElem?_toArray, List.getElem?_cons_succ, List.getElem?_cons_zero]; rfl) (by kernel_rfl) (by kernel_rfl) (by kernel_rfl) (fun _ _ _ h => h) (Or.inl ⟨by rfl, ?_⟩) (by assumption) ?_
    rotate_left
    · intro W hSW
      go_simp
      try with_reducible rfl
    try simp only [Act.put, List.setIfInBounds_toArray, List.set_cons_zero, List.set_cons_succ]
    refine wpAnyH_take (i := 2) (v := ?_) (by simp only [List.getElem?_toArray, List.getElem?_cons_succ, List.getElem?_cons_zero]; rfl) (by kernel_rfl) (by kernel_rfl) (by kernel_rfl) (fun _ _ _ h => h) (Or.inl ⟨by rfl, ?_⟩) (by assumption) ?_
    rotate_left
    · intro W hSW
      go_simp
      try with_reducible rfl
    try simp only [Act.put, List.setIfInBounds_toArray, List.set_cons_zero, List.set_cons_succ]
    refine wpAnyH_take (i := 3) (v := ?_) (by simp only [List.getElem?_toArray, List.getElem?_cons_succ, List.getElem?_cons_zero]; rfl) (by kernel_rfl) (by kernel_rfl) (by kernel_rfl) (fun _ _ _ h => h) (Or.inl ⟨by rfl, ?_⟩) (by assumption) ?_
    rotate_left
    · intro W hSW
      go_simp
      try with_reducible rfl
    try simp only [Act.put, List.setIfInBounds_toArray, List.set_cons_zero, List.set_cons_succ]
    refine wpAnyH_take (i := 4) (by simp only [List.getElem?_toArray, List.getElem?_cons_succ, List.getElem?_cons_zero]; rfl) (by kernel_rfl) (by kernel_rfl) (by kernel_rfl) (fun _ _ _ h => h) (yieldsIf_conv (by rfl) 23 9 _ rfl (.slice (some ⟨pg, 0, none⟩) tl pc) rfl (.string tx) (fun W hSW => HCV.out W hSW)) (by assumption) ?_
    try simp only [Act.put, List.setIfInBounds_toArray, List.set_cons_zero, List.set_cons_succ]
    refine wpAnyH_take (i := 5) (v := ?_) (by simp only [List.getElem?_toArray, List.getElem?_cons_succ, List.getElem?_cons_zero]; rfl) (by kernel_rfl) (by kernel_rfl) (by kernel_rfl) (fun _ _ _ h => h) (Or.inl ⟨by rfl, ?_⟩) (by assumption) ?_
    rotate_left
    · intro W hSW
      go_simp
      try with_reducible rfl
    try simp only [Act.put, List.setIfInBounds_toArray, List.set_cons_zero, List.set_cons_succ]
    refine wpAnyH_ready (rs := [6]) (by kernel_rfl) (by simp) ?_
    refine AllReadyH.cons (by simp only [List.getElem?_toArray, List.getElem?_cons_succ, List.getElem?_cons_zero]; rfl) (fun K hK => ?_) AllReadyH.nil
    go_simp
    refine (HAS.out _ ((Below.refl _ _).drew)).mono ?_
    rintro e v6 ⟨⟨v, rfl, ho⟩, hb⟩
    obtain ⟨a6, c6, rfl, hat6, -, -⟩ := ho.at
    rw [HN.out]
    have hb6 : Below w5.heap.size w5 v6 := (Below.refl _ _).drew.trans hb
    have HB6 := Lib.hid hb6
    have HRP := Lib.hid (fun W hW => HPRT.out a6 c6 W (hat6.below hW))
    clear ho hat6 hb
    go_wp2_with fail
    refine hK.out _ _ (hb6) (fun hHeld2 => ?_)
    clear hK K hHeld
    have hHeld := hHeld2
    clear hHeld2
    try simp only [Act.put, List.setIfInBounds_toArray, List.set_cons_zero, List.set_cons_succ]
    clear hb6
    refine wpAnyH_ready (rs := [7]) (by kernel_rfl) (by simp) ?_
    refine AllReadyH.cons (by simp only [List.getElem?_toArray, List.getElem?_cons_succ, List.getElem?_cons_zero]; rfl) (fun K hK => ?_) AllReadyH.nil
    go_simp
    refine (HRP.out _ (Below.refl _ _)).mono ?_
    rintro e v7 ⟨rfl, hb⟩
    have hb7 : Below w5.heap.size w5 v7 := HB6.out.trans (hb.mono HB6.out.size)
    have HB7 := Lib.hid hb7
    clear hb
    go_wp2_with fail
    refine hK.out _ _ (hb7) (fun hHeld2 => ?_)
    clear hK K hHeld
    have hHeld := hHeld2
    clear hHeld2
    try simp only [Act.put, List.setIfInBounds_toArray, List.set_cons_zero, List.set_cons_succ]
    clear hb7
    refine wpAnyH_take (i := 8) (by simp only [List.getElem?_toArray, List.getElem?_cons_succ, List.getElem?_cons_zero]; rfl) (by kernel_rfl) (by kernel_rfl) (by kernel_rfl) (fun _ _ _ h => h) (yieldsIf_eql (by rfl) .neq 9 _ _ _ rfl (.string tx) (.string tx) rfl rfl (.bool false) (fun W => guard_strn _ _ _ _ W) (fun W => neq_self tx W)) (by assumption) ?_
    try simp only [Act.put, List.setIfInBounds_toArray, List.set_cons_zero, List.set_cons_succ]
    refine wpAnyH_take (i := 9) (v := ?_) (by simp only [List.getElem?_toArray, List.getElem?_cons_succ, List.getElem?_cons_zero]; rfl) (by kernel_rfl) (by kernel_rfl) (by kernel_rfl) (fun _ _ _ h => h) (Or.inl ⟨by rfl, ?_⟩) (by assumption) ?_
    rotate_left
    · intro W hSW
      go_simp
      try with_reducible rfl
    try simp only [Act.put, List.setIfInBounds_toArray, List.set_cons_zero, List.set_cons_succ]
    refine wpAnyH_take (i := 10) (v := ?_) (by simp only [List.getElem?_toArray, List.getElem?_cons_succ, List.getElem?_cons_zero]; rfl) (by kernel_rfl) (by kernel_rfl) (by kernel_rfl) (fun _ _ _ h => h) (Or.inl ⟨by rfl, ?_⟩) (by assumption) ?_
    rotate_left
    · intro W hSW
      go_simp
      try with_reducible rfl
    try simp only [Act.put, List.setIfInBounds_toArray, List.set_cons_zero, List.set_cons_succ]
    refine wpAnyH_take (i := 11) (v := ?_) (by simp only [List.getElem?_toArray, List.getElem?_cons_succ, List.getElem?_cons_zero]; rfl) (by kernel_rfl) (by kernel_rfl) (by kernel_rfl) (fun _ _ _ h => h) (Or.inl ⟨by rfl, ?_⟩) (by assumption) ?_
    rotate_left
    · intro W hSW
      go_simp
      try with_reducible rfl
    try simp only [Act.put, List.setIfInBounds_toArray, List.set_cons_zero, List.set_cons_succ]
    refine wpAnyH_take (i := 12) (v := ?_) (by simp only [List.getElem?_toArray, List.getElem?_cons_succ, List.getElem?_cons_zero]; rfl) (by kernel_rfl) (by kernel_rfl) (by kernel_rfl) (fun _ _ _ h => h) (Or.inl ⟨by rfl, ?_⟩) (by assumption) ?_
    rotate_left
    · intro W hSW
      go_simp
      try with_reducible rfl
    try simp only [Act.put, List.setIfInBounds_toArray, List.set_cons_zero, List.set_cons_succ]
    refine wpAnyH_take (i := 13) (v := ?_) (by simp only [List.getElem?_toArray, List.getElem?_cons_succ, List.getElem?_cons_zero]; rfl) (by kernel_rfl) (by kernel_rfl) (by kernel_rfl) (fun _ _ _ h => h) (Or.inl ⟨by rfl, ?_⟩) (by assumption) ?_
    rotate_left
    · intro W hSW
      go_simp
      try with_reducible rfl
    try simp only [Act.put, List.setIfInBounds_toArray, List.set_cons_zero, List.set_cons_succ]
    refine wpAnyH_take (i := 14) (v := ?_) (by simp only [List.getElem?_toArray, List.getElem?_cons_succ, List.getElem?_cons_zero]; rfl) (by kernel_rfl) (by kernel_rfl) (by kernel_rfl) (fun _ _ _ h => h) (Or.inl ⟨by rfl, ?_⟩) (by assumption) ?_
    rotate_left
    · intro W hSW
      go_simp
      try with_reducible rfl
    try simp only [Act.put, List.setIfInBounds_toArray, List.set_cons_zero, List.set_cons_succ]
    refine wpAnyH_take (i := 15) (v := ?_) (by simp only [List.getElem?_toArray, List.getElem?_cons_succ, List.getElem?_cons_zero]; rfl) (by kernel_rfl) (by kernel_rfl) (by kernel_rfl) (fun _ _ _ h => h) (Or.inl ⟨by rfl, ?_⟩) (by assumption) ?_
    rotate_left
    · intro W hSW
      go_simp
      try with_reducible rfl
    try simp only [Act.put, List.setIfInBounds_toArray, List.set_cons_zero, List.set_cons_succ]
    refine wpAnyH_take (i := 17) (v := ?_) (by simp only [List.getElem?_toArray, List.getElem?_cons_succ, List.getElem?_cons_zero]; rfl) (by kernel_rfl) (by kernel_rfl) (by kernel_rfl) (fun _ _ _ h => h) (Or.inl ⟨by rfl, ?_⟩) (by assumption) ?_
    rotate_left
    · intro W hSW
      go_simp
      try with_reducible rfl
    try simp only [Act.put, List.setIfInBounds_toArray, List.set_cons_zero, List.set_cons_succ]
    refine wpAnyH_ready (rs := [16]) (by kernel_rfl) (by simp) ?_
    refine AllReadyH.cons (by simp only [List.getElem?_toArray, List.getElem?_cons_succ, List.getElem?_cons_zero]; rfl) (fun K hK => ?_) AllReadyH.nil
    go_simp
    refine (HAX.out _ HB7.out).mono ?_
    rintro e v8 ⟨⟨v, rfl, ho⟩, hb⟩
    obtain ⟨a8, c8, rfl, hat8, -, -⟩ := ho.at
    rw [HN.out]
    have hb8 : Below w5.heap.size w5 v8 := HB7.out.trans (hb.mono HB7.out.size)
    have HB8 := Lib.hid hb8
    have HT8 := Lib.hid hat8
    clear ho hat8 hb
    go_wp2_with fail
    refine hK.out _ _ (hb8) (fun hHeld2 => ?_)
    clear hK K hHeld
    have hHeld := hHeld2
    clear hHeld2
    try simp only [Act.put, List.setIfInBounds_toArray, List.set_cons_zero, List.set_cons_succ]
    clear hb8
    refine wpAnyH_ready (rs := [18]) (by kernel_rfl) (by simp) ?_
    refine AllReadyH.cons (by simp only [List.getElem?_toArray, List.getElem?_cons_succ, List.getElem?_cons_zero]; rfl) (fun K hK => ?_) AllReadyH.nil
    go_simp
    refine (HAS.out _ HB8.out).mono ?_
    rintro e v9 ⟨⟨v, rfl, ho⟩, hb⟩
    obtain ⟨a9, c9, rfl, hat9, -, -⟩ := ho.at
    rw [HN.out]
    have hb9 : Below w5.heap.size w5 v9 := HB8.out.trans (hb.mono HB8.out.size)
    have HB9 := Lib.hid hb9
    have HSM := Lib.hid (HSAME.out a8 a9 c8 c9 v9 (HT8.out.below hb) hat9)
    clear ho hat9 hb HT8
    go_wp2_with fail
    refine hK.out _ _ (hb9) (fun hHeld2 => ?_)
    clear hK K hHeld
    have hHeld := hHeld2
    clear hHeld2
    try simp only [Act.put, List.setIfInBounds_toArray, List.set_cons_zero, List.set_cons_succ]
    clear hb9
    refine wpAnyH_ready (rs := [19]) (by kernel_rfl) (by simp) ?_
    refine AllReadyH.cons (by simp only [List.getElem?_toArray, List.getElem?_cons_succ, List.getElem?_cons_zero]; rfl) (fun K hK => ?_) AllReadyH.nil
    go_simp
    refine (HSM.out).mono ?_
    rintro e v10 ⟨rfl, hb⟩
    have hb10 : Below w5.heap.size w5 v10 := HB9.out.trans (hb.mono HB9.out.size)
    have HB10 := Lib.hid hb10
    clear hb HSM
    go_wp2_with fail
    refine hK.out _ _ (hb10) (fun hHeld2 => ?_)
    clear hK K hHeld
    have hHeld := hHeld2
    clear hHeld2
    try simp only [Act.put, List.setIfInBounds_toArray, List.set_cons_zero, List.set_cons_succ]
    clear hb10
    refine wpAnyH_take (i := 20) (v := ?_) (by simp only [List.getElem?_toArray, List.getElem?_cons_succ, List.getElem?_cons_zero]; rfl) (by kernel_rfl) (by kernel_rfl) (by kernel_rfl) (fun _ _ _ h => h) (Or.inl ⟨by rfl, ?_⟩) (by assumption) ?_
    rotate_left
    · intro W hSW
      go_simp
      try with_reducible rfl
    try simp only [Act.put, List.setIfInBounds_toArray, List.set_cons_zero, List.set_cons_succ]
    refine wpAnyH_take (i := 21) (v := ?_) (by simp only [List.getElem?_toArray, List.getElem?_cons_succ, List.getElem?_cons_zero]; rfl) (by kernel_rfl) (by kernel_rfl) (by kernel_rfl) (fun _ _ _ h => h) (Or.inl ⟨by rfl, ?_⟩) (by assumption) ?_
    rotate_left
    · intro W hSW
      go_simp
      try with_reducible rfl
    try simp only [Act.put, List.setIfInBounds_toArray, List.set_cons_zero, List.set_cons_succ]
    refine wpAnyH_done (by kernel_rfl) ?_ _
    refine NoPanic.normal ?_
    clear hHeld
    have HBT := Lib.hid (HB5.out.trans (HB10.out.mono HB5.out.size))
    clear HB5 HB6 HB7 HB8 HB9 HCV HAS HAX
    go_wp2_with fail
    refine (mparse_any ba m bc T v10 (HBB.out.below HBT.out) (HE.out.below HBT.out) (by have := HM3.out; omega)).mono ?_
    rintro e x1 ⟨hpo, hb⟩
    have HX1 := Lib.hid (HBT.out.trans (hb.mono HBT.out.size))
    clear hb
    have htx := text_run x1 ba m bc T (HBB.out.below HX1.out)
    rw [← txt_of (strOfNums T)] at htx
    rw [HLT.out] at hpo htx
    cases hq : pairsL LT with
    | none =>
      rw [hq] at hpo
      obtain rfl : e = _ := hpo
      have HQ := Lib.hid hq
      clear hq
      go_wp2_with fail
      refine (rparse_any LT x1 HLL.out).mono ?_
      rintro e x2 ⟨hro, hb⟩
      rw [HQ.out] at hro
      obtain rfl : e = _ := hro
      have HX2 := Lib.hid (HX1.out.trans (hb.mono HX1.out.size))
      clear hb htx
      go_wp2_with fail
      refine (known_any _).mono ?_
      rintro e y1 ⟨rfl, hb⟩
      have HY1 := Lib.hid (HX2.out.trans (hb.mono HX2.out.size))
      have HBY1 := Lib.hid hb
      clear hb
      go_wp2_with fail
      refine (as_any none 0 [] y1 ⟨fun p hp => absurd hp (by simp), .inl rfl⟩ (by simp)).mono ?_
      rintro e y2 ⟨⟨v, rfl, ho⟩, hb⟩
      have HY2 := Lib.hid (HY1.out.trans (hb.mono HY1.out.size))
      have HBY2 := Lib.hid hb
      obtain ⟨a3, c3, rfl, hat, -, -⟩ := ho.at
      have HAT := Lib.hid hat
      clear hb ho hat
      go_wp2_with fail
      refine (same_any a3 none c3 0 [] [] y2 HAT.out ⟨fun p hp => absurd hp (by simp), .inl rfl⟩ (by simp) (by simp)).mono ?_
      rintro e y3 ⟨rfl, hb⟩
      have HY3 := Lib.hid (HY2.out.trans (hb.mono HY2.out.size))
      clear hb
      rw [decide_eq_true rfl]
      go_wp2_with fail
      go_ret
      exact ⟨rfl, HY3.out⟩
    | some qs =>
      rw [hq] at hpo
      have hpo2 : if rightP qs = true then ∃ a c, e = .returned (.tuple #[.slice a qs.length c, .int .i64 0]) ∧ OwnP 46 x1 v10.heap.size (.slice a qs.length c) qs else e = .returned (.tuple #[.slice none 0 0, .int .i64 9]) := hpo
      have HQ := Lib.hid hq
      have hql := (pairs_good LT.length (Nat.le_refl _) hq).2
      have HQL : Hid (qs.length ≤ 1000000) := by show _ ≤ _; have := HLL.out; omega
      clear hq hpo hql
      cases hrp : rightP qs
      · rw [hrp, if_neg (by decide)] at hpo2
        subst hpo2
        have HRP := Lib.hid hrp
        clear hrp
        go_wp2_with fail
        refine (rparse_any LT x1 HLL.out).mono ?_
        rintro e x2 ⟨hro, hb⟩
        rw [HQ.out] at hro
        have hro2 : if rightP qs = true then ∃ a c, e = .returned (.tuple #[.slice a qs.length c, .int .i64 0]) ∧ OwnP 44 x2 x1.heap.size (.slice a qs.length c) qs else e = .returned (.tuple #[.slice none 0 0, .int .i64 9]) := hro
        rw [HRP.out, if_neg (by decide)] at hro2
        subst hro2
        have HX2 := Lib.hid (HX1.out.trans (hb.mono HX1.out.size))
        clear hb htx hro
        go_wp2_with fail
        refine (known_any _).mono ?_
        rintro e y1 ⟨rfl, hb⟩
        have HY1 := Lib.hid (HX2.out.trans (hb.mono HX2.out.size))
        have HBY1 := Lib.hid hb
        clear hb
        go_wp2_with fail
        refine (as_any none 0 [] y1 ⟨fun p hp => absurd hp (by simp), .inl rfl⟩ (by simp)).mono ?_
        rintro e y2 ⟨⟨v, rfl, ho⟩, hb⟩
        have HY2 := Lib.hid (HY1.out.trans (hb.mono HY1.out.size))
        have HBY2 := Lib.hid hb
        obtain ⟨a3, c3, rfl, hat, -, -⟩ := ho.at
        have HAT := Lib.hid hat
        clear hb ho hat
        go_wp2_with fail
        refine (same_any a3 none c3 0 [] [] y2 HAT.out ⟨fun p hp => absurd hp (by simp), .inl rfl⟩ (by simp) (by simp)).mono ?_
        rintro e y3 ⟨rfl, hb⟩
        have HY3 := Lib.hid (HY2.out.trans (hb.mono HY2.out.size))
        clear hb
        rw [decide_eq_true rfl]
        go_wp2_with fail
        go_ret
        exact ⟨rfl, HY3.out⟩
      · rw [hrp, if_pos rfl] at hpo2
        obtain ⟨la, lc, rfl, hol⟩ := hpo2
        obtain ⟨la', lc', el, hlat, -, -⟩ := hol.at
        simp only [Value.slice.injEq, true_and] at el
        obtain ⟨rfl, rfl⟩ := el
        have HL := Lib.hid hlat
        have HRP := Lib.hid hrp
        clear hrp hol hlat
        go_wp2_with fail
        refine (rparse_any LT x1 HLL.out).mono ?_
        rintro e x2 ⟨hro, hb⟩
        rw [HQ.out] at hro
        have hro2 : if rightP qs = true then ∃ a c, e = .returned (.tuple #[.slice a qs.length c, .int .i64 0]) ∧ OwnP 44 x2 x1.heap.size (.slice a qs.length c) qs else e = .returned (.tuple #[.slice none 0 0, .int .i64 9]) := hro
        rw [HRP.out, if_pos rfl] at hro2
        obtain ⟨ra, rc, rfl, hor⟩ := hro2
        obtain ⟨ra', rc', er, hrat, -, -⟩ := hor.at
        simp only [Value.slice.injEq, true_and] at er
        obtain ⟨rfl, rfl⟩ := er
        have HR2 := Lib.hid hrat
        have HX2 := Lib.hid (HX1.out.trans (hb.mono HX1.out.size))
        have HBX2 := Lib.hid hb
        clear hb htx hro hor hrat
        go_wp2_with fail
        refine (known_any _).mono ?_
        rintro e y1 ⟨rfl, hb⟩
        have HY1 := Lib.hid (HX2.out.trans (hb.mono HX2.out.size))
        have HBY1 := Lib.hid hb
        clear hb
        go_wp2_with fail
        refine (as_any la lc qs y1 (HL.out.below (HBX2.out.trans (HBY1.out.mono HBX2.out.size))) HQL.out).mono ?_
        rintro e y2 ⟨⟨v, rfl, ho⟩, hb⟩
        have HY2 := Lib.hid (HY1.out.trans (hb.mono HY1.out.size))
        have HBY2 := Lib.hid hb
        obtain ⟨a3, c3, rfl, hat, -, -⟩ := ho.at
        have HAT := Lib.hid hat
        clear hb ho hat
        go_wp2_with fail
        refine (same_any a3 ra c3 rc qs qs y2 HAT.out (HR2.out.below (HBY1.out.trans (HBY2.out.mono HBY1.out.size))) HQL.out HQL.out).mono ?_
        rintro e y3 ⟨rfl, hb⟩
        have HY3 := Lib.hid (HY2.out.trans (hb.mono HY2.out.size))
        clear hb
        rw [decide_eq_true rfl]
        go_wp2_with fail
        go_ret
        exact ⟨rfl, HY3.out⟩
end Go.Proofs.Ytlhdjbnilfbaoaa
