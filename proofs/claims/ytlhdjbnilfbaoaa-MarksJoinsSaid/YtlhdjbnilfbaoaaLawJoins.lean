/- MarksJoins: the walk. -/
import Derived.Test.YtlhdjbnilfbaoaaLawTexts
namespace Go.Proofs.Ytlhdjbnilfbaoaa
open Go.RowKit Plain
set_option linter.unusedVariables false
set_option linter.unusedSimpArgs false
theorem PsAt.take {w : World} {a : Option Addr} {ps : List (List Int)} (h : PsAt w a ps) (q : Nat) : PsAt w a (ps.take q) := by
  refine ⟨fun p hp => h.each p (List.mem_of_mem_take hp), ?_⟩
  rcases h.rows with h0 | ⟨b, off, e, hb, hc⟩
  · exact .inl (by rw [List.length_take]; omega)
  · refine .inr ⟨b, off, e, hb, fun j p hj => hc j p ?_⟩
    rw [List.getElem?_take] at hj
    split at hj
    · exact hj
    · cases hj
def subP (a : Option Addr) (cap l : Nat) : Option Addr := if cap = l then a else a.map (·.add (l * 40))
theorem PsAt.drop {w : World} {a : Option Addr} {ps : List (List Int)} (h : PsAt w a ps) (cap q : Nat) (hc : ps.length ≤ cap) (hq : q ≤ ps.length) : PsAt w (subP a cap q) (ps.drop q) := by
  refine ⟨fun p hp => h.each p (List.mem_of_mem_drop hp), ?_⟩
  by_cases he : q = ps.length
  · exact .inl (by rw [List.length_drop]; omega)
  · rcases h.rows with h0 | ⟨b, off, rfl, hb, hr⟩
    · omega
    · refine .inr ⟨b, off + q * 40, ?_, hb, fun j p hj => ?_⟩
      · unfold subP
        rw [if_neg (by omega)]
        simp [Addr.add_mid]
      · rw [List.getElem?_drop] at hj
        have := hr (q + j) p hj
        rw [show off + q * 40 + j * 40 = off + (q + j) * 40 by omega]
        exact this
theorem slice_fromP (a : Option Addr) (m cap lo : Nat) (h1 : lo ≤ m) (h2 : m ≤ cap) (w : World) :
    (Instr.sliceAt 24 (.slice a m cap) (some (.int .i64 (lo : Int))) none none).run Try.prog w = .ok (.slice (subP a cap lo) (m - lo) (cap - lo)) w := by
  have hsz : ∀ W : World, (sizeOf (Try.prog.elem 24)).run Try.prog W = .ok 40 W := fun W => by kernel_rfl
  rw [run_sliceAt_slice w 24 _ _ _ _ (by kernel_rfl), run_slice_l w 24 a m cap (by kernel_rfl) .i64 (lo : Int) (by omega) (by omega), hsz]
  simp [Result.andThen_ok, sliced, subP]
theorem right_take {ps : List (List Int)} (h : rightP ps = true) (q : Nat) : rightP (ps.take q) = true := by
  unfold rightP at h ⊢
  rw [Bool.and_eq_true, decide_eq_true_eq, decide_eq_true_eq] at h ⊢
  rw [List.map_take, List.map_take]
  exact ⟨h.1.sublist (List.take_sublist _ _), h.2.sublist (List.take_sublist _ _)⟩
theorem right_drop {ps : List (List Int)} (h : rightP ps = true) (q : Nat) : rightP (ps.drop q) = true := by
  unfold rightP at h ⊢
  rw [Bool.and_eq_true, decide_eq_true_eq, decide_eq_true_eq] at h ⊢
  rw [List.map_drop, List.map_drop]
  exact ⟨h.1.sublist (List.drop_sublist _ _), h.2.sublist (List.drop_sublist _ _)⟩
theorem cut_text (l : List UInt8) (t : Nat) : (strOfNums ((numsOf (txt l)).take t)).data.toList = l.take t := by
  have e : (numsOf (txt l)).take t = numsOf (txt (l.take t)) := by
    unfold numsOf
    rw [txt_list, txt_list, List.map_take]
  rw [e, str_nums, txt_list]
theorem parts_join (ps : List (List Int)) (q : Nat) : txt (textT (ps.take q)) ++ txt (textT (ps.drop q)) = txt (textT ps) := by
  apply ByteArray.ext
  apply Array.toList_inj.1
  rw [ByteArray.data_append, Array.toList_append, txt_list, txt_list, txt_list, ← textT_app, List.take_append_drop]
theorem eq_self (s : ByteArray) (W : World) : (binOp .eql 9 (.string s) (.string s)).run Try.prog W = .ok (.bool true) W := by
  rw [binOp_string_eql]
  simp
theorem guard_str (x y : Operand) (s t : ByteArray) (W : World) : (eqGuard .eql 9 x y (.string s) (.string t)).run Try.prog W = .ok () W := by
  simp [eqGuard]
set_option maxRecDepth 100000 in
set_option maxHeartbeats 64000000 in
theorem joins_any (a : Option Addr) (c : Nat) (ps0 : List (List Int)) (cut : Int) (w : World) (hE : Env w) (h : PsAt w a ps0) (hn : ps0.length ≤ 9223372036854775807) (hgp : ∀ p ∈ ps0, ∀ x ∈ p, 0 ≤ x ∧ x ≤ 255) :
    Calls Try.prog 4 #[.slice a ps0.length c, .int .i64 cut] w fun e w' => e = .returned (.bool true) ∧ Below w.heap.size w w' := by
  have HE := Lib.hid hE
  have HF := Lib.hid (few_any a c ps0 w h hn)
  have HG0 : Hid (∀ p ∈ ps0.take 40, GoodP p) := fun p hp => ⟨h.each p (List.mem_of_mem_take hp), hgp p (List.mem_of_mem_take hp)⟩
  have HL40 : Hid ((ps0.take 40).length ≤ 40) := List.length_take_le _ _
  clear hE h hgp
  generalize ps0.length = n0 at *
  generalize ps0.take 40 = ps at *
  clear hn
  go_enter Try.func4, Try.ntmps4
  go_wp2_with fail
  refine HF.out.mono ?_
  rintro e w1 ⟨⟨v, rfl, ho⟩, hb⟩
  obtain ⟨ma, mc, rfl, hat, hmc, -⟩ := ho.at
  have HB1 := Lib.hid hb
  have HM := Lib.hid hat
  have HMC := Lib.hid hmc
  obtain ⟨n, hnl⟩ : ∃ n, ps.length = n := ⟨_, rfl⟩
  have HN := Lib.hid hnl
  have HN6 : Hid (ps.length ≤ 1000000) := Nat.le_trans HL40.out (by decide)
  have HPT := Lib.hid (mprint_any ma mc ps w1 hat HN6.out (fun p hp => (HG0.out p hp).2))
  rw [hnl] at HPT ⊢
  clear ho hb hat hnl hmc HF
  go_wp2_with fail
  refine HPT.out.mono ?_
  rintro e w2 ⟨hpo, hb⟩
  have HB2 := Lib.hid (HB1.out.trans (hb.mono HB1.out.size))
  have HM2 := Lib.hid (HM.out.below hb)
  clear hb HPT HM
  have hpo2 : if rightP ps = true then ∃ g c, e = .returned (.tuple #[.slice (some ⟨g, 0, none⟩) (textT ps).length c, .int .i64 0]) ∧ w1.heap.size ≤ g ∧ (textT ps).length ≤ c ∧ Bytes w2 (some ⟨g, 0, none⟩) (textT ps).length (numsOf (txt (textT ps))) else e = .returned (.tuple #[.slice none 0 0, .int .i64 9]) := hpo
  clear hpo
  cases hrp : rightP ps
  · rw [hrp, if_neg (by decide)] at hpo2
    subst hpo2
    clear hrp
    go_wp2_with fail
    refine (known_any w2).mono ?_
    rintro e w3 ⟨rfl, hb⟩
    have HB3 := Lib.hid (HB2.out.trans (hb.mono HB2.out.size))
    clear hb
    go_wp2_with fail
    refine (known_any w3).mono ?_
    rintro e w4 ⟨rfl, hb⟩
    have HB4 := Lib.hid (HB3.out.trans (hb.mono HB3.out.size))
    clear hb
    go_wp2_with fail
    go_ret
    exact ⟨rfl, HB4.out⟩
  · rw [hrp, if_pos rfl] at hpo2
    obtain ⟨pg, pc, rfl, -, htc, hby⟩ := hpo2
    have HRP := Lib.hid hrp
    have HBY := Lib.hid hby
    have htl := textT_len (fun p hp => (HG0.out p hp).1)
    have hcut := fun t ht => text_cut (ps := ps) t HG0.out ht
    obtain ⟨tl, htle⟩ : ∃ l, (textT ps).length = l := ⟨_, rfl⟩
    rw [htle] at HBY htc htl ⊢
    have htb : tl ≤ 10000 := by have := HL40.out; omega
    obtain ⟨t, htl2, et⟩ : ∃ t : Nat, t ≤ tl ∧ wrap64 ((IntKind.u64.wrap cut).tmod ((tl + 1 : Nat) : Int)) = (t : Int) := by
      have h0 : 0 ≤ IntKind.u64.wrap cut := by rw [IntKind.wrap_u64]; omega
      generalize IntKind.u64.wrap cut = u at *
      rw [Int.tmod_eq_emod_of_nonneg h0]
      have h1 := Int.emod_nonneg u (show ((tl + 1 : Nat) : Int) ≠ 0 by omega)
      have h2 := Int.emod_lt_of_pos u (show (0 : Int) < ((tl + 1 : Nat) : Int) by omega)
      rw [IntWalk.wrap64_in _ (by omega)]
      exact ⟨(u % ((tl + 1 : Nat) : Int)).toNat, by omega, by omega⟩
    have w1e : wrap64 ((tl : Int) + 1) = ((tl + 1 : Nat) : Int) := by
      rw [show (tl : Int) + 1 = ((tl + 1 : Nat) : Int) by omega]
      exact IntWalk.wrap64_in _ (by omega)
    have hu : IntKind.u64.wrap ((tl + 1 : Nat) : Int) = ((tl + 1 : Nat) : Int) := by rw [IntKind.wrap_u64]; omega
    have hne0 : ¬ (((tl + 1 : Nat) : Int) = 0) := by omega
    have hpar := hcut t (by omega)
    have HPAR : Hid (pairsL (strOfNums ((numsOf (txt (textT ps))).take t)).data.toList = if t % 82 = 0 then some (ps.take (t / 82)) else none) := by
      show _ = _
      rw [cut_text]; exact hpar
    have hym := hby.part pc 0 t (Nat.zero_le _) (by omega) (by omega)
    have hsub : subA (some ⟨pg, 0, none⟩) pc 0 = some ⟨pg, 0, none⟩ := by
      unfold subA
      split
      · rfl
      · simp [Addr.add]
    rw [List.drop_zero, Nat.sub_zero, hsub] at hym
    have HYM := Lib.hid hym
    have hsl := fun W => slice_to (some ⟨pg, 0, none⟩) tl pc t (by omega) W
    have htm : (t : Int).tmod 82 = ((t % 82 : Nat) : Int) := by rw [Int.tmod_eq_emod_of_nonneg (by omega)]; omega
    have htd : (t : Int).tdiv 82 = ((t / 82 : Nat) : Int) := by rw [Int.tdiv_eq_ediv_of_nonneg (by omega)]; omega
    have hq40 : t / 82 ≤ n := by have := HN.out; omega
    have HTLB : Hid (t ≤ 10000000) := by show _ ≤ _; omega
    have HWQ : Hid (wrap64 ((t / 82 : Nat) : Int) = ((t / 82 : Nat) : Int)) := IntWalk.wrap64_in _ (by omega)
    have HWM : Hid (wrap64 ((t % 82 : Nat) : Int) = ((t % 82 : Nat) : Int)) := IntWalk.wrap64_in _ (by omega)
    have HQN := Lib.hid hq40
    have hqd : t % 82 = 0 → True := fun _ => trivial
    have HTXS : Hid ((txt (textT ps)).size ≤ 10000) := by show _ ≤ _; rw [txt_size, htle]; exact htb
    have HSLP := Lib.hid (fun W => slice_pairs ma n mc (t / 82) (Nat.le_trans hq40 (by have := HMC.out; rw [HN.out] at this; exact this)) W)
    have HSLF := Lib.hid (fun W => slice_fromP ma n mc (t / 82) hq40 (by have := HMC.out; rw [HN.out] at this; exact this) W)
    obtain ⟨tx, htxe⟩ : ∃ s, txt (textT ps) = s := ⟨_, rfl⟩
    have HTXE := Lib.hid htxe
    have HTS : Hid (strOfNums (numsOf tx) = tx) := str_nums tx
    rw [htxe] at HBY HPAR HYM HTXS
    obtain ⟨n1, hn1⟩ : ∃ n, tl + 1 = n := ⟨_, rfl⟩
    rw [hn1] at et w1e hu hne0
    have HET := Lib.hid et
    have HW1 := Lib.hid w1e
    have HU := Lib.hid hu
    have HNE0 := Lib.hid hne0
    have HSL := Lib.hid hsl
    have HTM := Lib.hid htm
    have HTD := Lib.hid htd
    clear hrp hby htl htle htxe hcut htb hpar hym hsub htl2 hn1 hq40 hqd et w1e hu hne0 hsl htm htd
    generalize t / 82 = q at *
    generalize t % 82 = r at *
    go_wp2_with fail
    refine (known_any w2).mono ?_
    rintro e w3 ⟨rfl, hb⟩
    have HB3 := Lib.hid (HB2.out.trans (hb.mono HB2.out.size))
    have HM3 := Lib.hid (HM2.out.below hb)
    have HY3 := Lib.hid (HBY.out.below hb)
    have HYM3 := Lib.hid (HYM.out.below hb)
    clear hb HB2 HM2 HBY HYM
    have et := HET.out
    have w1e := HW1.out
    have hu := HU.out
    have hne0 := HNE0.out
    have hsl := HSL.out
    go_wp2_with fail
    clear w1e hu hne0 hsl
    clear et
    refine (mparse_any (some ⟨pg, 0, none⟩) t pc ((numsOf tx).take t) w3 HYM3.out (HE.out.below HB3.out) HTLB.out).mono ?_
    rintro e w4 ⟨hpo, hb⟩
    rw [HPAR.out] at hpo
    have HB4 := Lib.hid (HB3.out.trans (hb.mono HB3.out.size))
    have HM4 := Lib.hid (HM3.out.below hb)
    have HY4 := Lib.hid (HY3.out.below hb)
    clear hb HB3 HM3 HY3 HYM3
    by_cases hr : r = 0
    · subst hr
      rw [if_pos rfl] at hpo
      have hpo2 : if rightP (ps.take q) = true then ∃ a c, e = .returned (.tuple #[.slice a (ps.take q).length c, .int .i64 0]) ∧ OwnP 46 w4 w3.heap.size (.slice a (ps.take q).length c) (ps.take q) else e = .returned (.tuple #[.slice none 0 0, .int .i64 9]) := hpo
      rw [if_pos (right_take HRP.out q)] at hpo2
      obtain ⟨xa, xc, rfl, -⟩ := hpo2
      have hql : (ps.take q).length = q := by rw [List.length_take, HN.out]; have := HQN.out; omega
      have hqd : (ps.drop q).length = n - q := by rw [List.length_drop, HN.out]
      have HP1 := Lib.hid (fun (W : World) (hW : Below w4.heap.size w4 W) => mprint_any ma mc (ps.take q) W ((HM4.out.below hW).take q) (Nat.le_trans (List.length_take_le' _ _) HN6.out) (fun p hp => (HG0.out p (List.mem_of_mem_take hp)).2))
      have HP2 := Lib.hid (fun (W : World) (hW : Below w4.heap.size w4 W) => mprint_any (subP ma mc q) (mc - q) (ps.drop q) W ((HM4.out.below hW).drop mc q HMC.out (by rw [HN.out]; exact HQN.out)) (by rw [hqd]; have := HN6.out; rw [HN.out] at this; omega) (fun p hp => (HG0.out p (List.mem_of_mem_drop hp)).2))
      rw [hql] at HP1 ⊢
      rw [hqd] at HP2
      have et := HET.out
      have htm := HTM.out
      have htd := HTD.out
      have hwm := HWM.out
      have hslp := HSLP.out
      have hslf := HSLF.out
      have hwq := HWQ.out
      clear hpo hql hqd
      go_wp2_with fail
      refine (HP1.out w4 (Below.refl _ _)).mono ?_
      rintro e w5 ⟨hpo, hb⟩
      have hpo2 : if rightP (ps.take q) = true then ∃ g c, e = .returned (.tuple #[.slice (some ⟨g, 0, none⟩) (textT (ps.take q)).length c, .int .i64 0]) ∧ w4.heap.size ≤ g ∧ (textT (ps.take q)).length ≤ c ∧ Bytes w5 (some ⟨g, 0, none⟩) (textT (ps.take q)).length (numsOf (txt (textT (ps.take q)))) else e = .returned (.tuple #[.slice none 0 0, .int .i64 9]) := hpo
      rw [if_pos (right_take HRP.out q)] at hpo2
      obtain ⟨ag, ac, rfl, -, -, hya⟩ := hpo2
      have HYA := Lib.hid hya
      have HW5 := Lib.hid hb
      clear hpo hya hb HP1 hslp
      obtain ⟨al, hal⟩ : ∃ l, (textT (ps.take q)).length = l := ⟨_, rfl⟩
      rw [hal] at HYA ⊢
      clear hal
      go_wp2_with fail
      refine (HP2.out w5 HW5.out).mono ?_
      rintro e w6 ⟨hpo, hb⟩
      have hpo2 : if rightP (ps.drop q) = true then ∃ g c, e = .returned (.tuple #[.slice (some ⟨g, 0, none⟩) (textT (ps.drop q)).length c, .int .i64 0]) ∧ w5.heap.size ≤ g ∧ (textT (ps.drop q)).length ≤ c ∧ Bytes w6 (some ⟨g, 0, none⟩) (textT (ps.drop q)).length (numsOf (txt (textT (ps.drop q)))) else e = .returned (.tuple #[.slice none 0 0, .int .i64 9]) := hpo
      rw [if_pos (right_drop HRP.out q)] at hpo2
      obtain ⟨bg, bc, rfl, -, -, hyb⟩ := hpo2
      have HYB := Lib.hid hyb
      have HYA6 := Lib.hid (HYA.out.below hb)
      have HY6 := Lib.hid (HY4.out.below (HW5.out.trans (hb.mono HW5.out.size)))
      have HB6 := Lib.hid (HB4.out.trans ((HW5.out.trans (hb.mono HW5.out.size)).mono HB4.out.size))
      clear hpo hyb hb HP2 hslf
      obtain ⟨bl, hbl⟩ : ∃ l, (textT (ps.drop q)).length = l := ⟨_, rfl⟩
      rw [hbl] at HYB ⊢
      clear hbl
      have hj := parts_join ps q
      rw [HTXE.out] at hj
      have hc1 := text_run w6 _ _ ac _ HYA6.out
      have hc2 := text_run w6 _ _ bc _ HYB.out
      have hc3 := text_run w6 _ _ pc _ HY6.out
      rw [str_nums] at hc1 hc2 hc3
      have hz1 : (txt (textT (ps.take q))).size + (txt (textT (ps.drop q))).size ≤ 100000000 := by
        have h1 := congrArg ByteArray.size hj
        rw [ByteArray.size_append] at h1
        have := HTXS.out
        omega
      have hadd := add_small (txt (textT (ps.take q))) (txt (textT (ps.drop q))) hz1
      rw [hj] at hadd
      clear hj hz1
      generalize txt (textT (ps.take q)) = sa at *
      generalize txt (textT (ps.drop q)) = sb at *
      go_wp2_with (first
        | refine wpList_eql rfl .eql 9 _ _ _ rfl (.string tx) (.string tx) rfl rfl (.bool true) (guard_str _ _ _ _) (eq_self tx) ?_)
      go_ret
      exact ⟨rfl, HB6.out⟩
    · rw [if_neg hr] at hpo
      obtain rfl : e = _ := hpo
      have hri : (((r : Nat) : Int) != 0) = true := by simp; omega
      have et := HET.out
      have hwm := HWM.out
      have htm := HTM.out
      clear hr
      go_wp2_with fail
      go_ret
      exact ⟨rfl, HB4.out⟩
end Go.Proofs.Ytlhdjbnilfbaoaa
