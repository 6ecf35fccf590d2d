/- told: the walk. -/
import Derived.Test.YtmjpejnpcmodgaaDoorNmRows
namespace Go.Proofs.YtmjpejnpcmodgaaDoor
open Go.RowKit Plain
set_option linter.unusedVariables false
set_option linter.unusedSimpArgs false
def frontT (p : List UInt8) (k : Nat) : List (List UInt8) := (p.take k).map tokB ++ List.replicate (p.length - k) []
theorem frontT_len (p : List UInt8) (k : Nat) (h : k ≤ p.length) : (frontT p k).length = p.length := by
  unfold frontT
  rw [List.length_append, List.length_map, List.length_take, List.length_replicate]
  omega
theorem frontT_set {p : List UInt8} {k : Nat} {c : UInt8} (h : p[k]? = some c) : (frontT p k).set k (tokB c) = frontT p (k + 1) := by
  have hk := (List.getElem?_eq_some_iff.1 h).1
  unfold frontT
  have e : ((p.take k).map tokB).length = k := by rw [List.length_map, List.length_take]; omega
  rw [List.set_append_right _ _ (by omega), e, Nat.sub_self, List.take_add_one, h, List.map_append, show p.length - k = (p.length - (k + 1)) + 1 by omega, List.replicate_succ]
  simp
theorem frontT_all (p : List UInt8) : frontT p p.length = p.map tokB := by
  unfold frontT
  rw [List.take_length, Nat.sub_self, List.replicate_zero, List.append_nil]
theorem toks2_len (p : List UInt8) : (toks2 p).length = p.length := (toks2_all p).1
theorem setIf_len (p : List UInt8) (i : Nat) (l : List (List UInt8)) : (setIf p i l).length = l.length := by
  unfold setIf
  split
  · rw [List.length_set]
  · rfl
theorem setIf_yes {p : List UInt8} {i : Nat} (l : List (List UInt8)) (h : spc (p[i]?.getD 0) = true) : setIf p i l = l.set i (byNum (p[i]?.getD 0)) := by
  unfold setIf
  rw [if_pos h]
theorem wpList_index {P : Program} {w : World} {ops : Array Oper} {rest : List Oper} {o : Oper} {a : Act} {Q : Exit → Act → World → Prop} (hw : Region.wanted o (yielded ops a.tmps) = true) (ty : TypeId) (x y : Operand) (ho : o.op = .index ty x y)
    (u1 u2 : Value) (h1 : a.eval x = u1) (h2 : a.eval y = u2) (v : Value) (hr : ∀ W, (Instr.index ty u1 u2).run P W = .ok v W) (h : wpList P ops Q rest (a.put o.dst v) w) : wpList P ops Q (o :: rest) a w := by
  refine wpList_step ?_
  intro K hK
  rw [if_pos hw]
  unfold Oper.wp execOp
  simp only [ho, h1, h2, Sem.run_bind, hr, Result.andThen_ok]
  exact hK _ _ h
theorem idx_zero (x : Int) (W : World) : (Instr.index 40 (.agg #[.int .i64 0, .int .i64 x]) (.int .i64 0)).run Tryd.prog W = .ok (.int .i64 0) W := by kernel_rfl
theorem idx_one (x : Int) (W : World) : (Instr.index 40 (.agg #[.int .i64 0, .int .i64 x]) (.int .i64 1)).run Tryd.prog W = .ok (.int .i64 x) W := by kernel_rfl
set_option maxRecDepth 100000 in
set_option maxHeartbeats 16000000 in
theorem told_any (s : ByteArray) (w : World) (hE : Env w) (h0 : s.size ≠ 0) (hs : s.size ≤ 1000) :
    Calls Tryd.prog 11 #[.string s] w fun e w' => e = .returned (.string (txt (toldL s.data.toList))) ∧ Below w.heap.size w w' := by
  have HE := Lib.hid hE
  obtain ⟨n, hn⟩ : ∃ n, s.size = n := ⟨_, rfl⟩
  have HN := Lib.hid hn
  have HNB : Hid (n ≤ 1000) := by rw [← hn]; exact hs
  have HN0 : Hid (0 < n) := by rw [← hn]; show _ < _; omega
  have HPL : Hid (s.data.toList.length = n) := by show _ = _; rw [← Lib.size_eq]; exact hn
  have hlen : s.size = n := hn
  have hmk := fun W => make_ss n (by omega) W
  have HS0 : Hid (SRow w w.heap.size (frontT s.data.toList 0) (w.alloc (.cells (Lib.cellsOf [] n) 9))) := by
    refine ⟨?_, (Below.refl _ _).alloc (Nat.le_refl _) _, Nat.le_refl _⟩
    rw [heap_alloc_new, rowS_nil]
    unfold frontT
    rw [List.take_zero, Nat.sub_zero, HPL.out]
    rfl
  clear hE h0 hs hn
  go_enter Tryd.func11, Tryd.ntmps11
  go_wp2_with fail
  clear hmk
  generalize w.alloc (.cells (Lib.cellsOf [] n) 9) = w1 at *
  obtain ⟨g, hg⟩ : ∃ g, w.heap.size = g := ⟨_, rfl⟩
  rw [hg] at HS0
  simp only [hg]
  have HG : Hid (w.heap.size ≤ g) := by show _ ≤ _; omega
  clear hg
  go_loopw [15] (fun i wr => ∃ k : Nat, k ≤ n ∧ i = .int .i64 (k : Int) ∧ SRow w g (frontT s.data.toList k) wr) (fun i _ => n - (intOf i).toNat)
  case atStart => exact ⟨0, Nat.zero_le _, rfl, HS0.out⟩
  case round =>
    rename World => wr
    obtain ⟨k, hk, rfl, hsr⟩ := hrel
    have HS := Lib.hid hsr
    have WK := Lib.hid (next_int k (by have := HNB.out; omega))
    clear hsr HS0
    by_cases hkn : k < n
    · have hki : (k : Int) < (n : Int) := by omega
      have HKN := Lib.hid hkn
      obtain ⟨c, hc⟩ : ∃ c, s.data.toList[k]? = some c := ⟨_, List.getElem?_eq_getElem (by rw [HPL.out]; exact hkn)⟩
      have hix := fun W => index_text s k (by rw [HN.out]; exact hkn) (k : Int) rfl W
      have h8 : at8 s k = c.toNat := by unfold at8; rw [hc]; rfl
      rw [h8] at hix
      have HTB := Lib.hid (tokB_any c wr)
      have HFS := Lib.hid (frontT_set hc)
      have HCU : Hid ((frontT s.data.toList k)[k]? = some []) := by
        show _ = _
        unfold frontT
        have e : ((s.data.toList.take k).map tokB).length = k := by rw [List.length_map, List.length_take, HPL.out]; omega
        rw [List.getElem?_append_right (by omega), e, Nat.sub_self, HPL.out, List.getElem?_replicate_of_lt (by omega)]
      clear h8 hc hkn hk
      generalize (c.toNat : Int) = ci at *
      go_wp2_with fail
      refine HTB.out.mono ?_
      rintro e w2 ⟨rfl, hb⟩
      have HS2 := Lib.hid (HS.out.below hb)
      have hco := HS2.out.cell HCU.out
      have hfo := frozen_of_row w2 g k _ _ HS2.out.row
      have HS3 := Lib.hid (HS2.out.set k (tokB c))
      rw [HFS.out] at HS3
      clear hb
      go_wp2_with fail
      exact ⟨⟨k + 1, HKN.out, by first | rw [WK.out _ rfl] | rfl, HS3.out⟩, by have := HKN.out; (first | rw [WK.out _ rfl] | skip); simp [intOf]; omega⟩
    · have hki : ¬ (k : Int) < (n : Int) := by omega
      have hkn' : k = s.data.toList.length := by rw [HPL.out]; omega
      rw [hkn', frontT_all] at HS
      have HMB : Hid ((s.data.toList.map tokB).flatten.length ≤ 3000) := by
        show _ ≤ _
        have := flat_le (s.data.toList.map tokB) fun t ht => (toks_len (AllTok.map s.data.toList) t ht).2
        rw [List.length_map, HPL.out] at this
        have := HNB.out
        omega
      have HJ := Lib.hid (join_row (s.data.toList.map tokB) [] w wr g n HS.out (by rw [List.length_map]; exact HPL.out) (by have := HNB.out; omega) (by rw [join_empty]; have := HMB.out; omega))
      rw [join_empty] at HJ
      obtain ⟨Fl, hFl⟩ : ∃ l, (s.data.toList.map tokB).flatten = l := ⟨_, rfl⟩
      rw [hFl] at HJ HMB
      have HAH : Hid ((Lib.cut Fl [46]).1 = aheadL s.data.toList) := by show _ = _; rw [← hFl]; rfl
      clear hkn' hkn hk hFl
      go_wp2_with fail
      refine HJ.out.mono ?_
      rintro e w2 ⟨rfl, hb⟩
      have HS2 := Lib.hid (HS.out.below hb)
      clear hb HS HJ
      obtain ⟨mx, hmx⟩ := (HE.out.below HS2.out.bel).most
      have HCT := Lib.hid (Tryd.strings_Cut (txt Fl) ⟨#[46]⟩ mx w2 (by rw [txt_size]; have := HMB.out; omega) hmx)
      clear hmx
      go_wp2_with fail
      refine HCT.out.mono ?_
      rintro e w3 ⟨rfl, nd, rfl⟩
      have hcl : (⟨(Lib.cut (txt Fl).data.toList (⟨#[46]⟩ : ByteArray).data.toList).1.toArray⟩ : ByteArray) = txt (aheadL s.data.toList) := by rw [← HAH.out, txt_list]; rfl
      rw [hcl]
      generalize (⟨(Lib.cut (txt Fl).data.toList (⟨#[46]⟩ : ByteArray).data.toList).2.1.toArray⟩ : ByteArray) = C2
      generalize (Lib.cut (txt Fl).data.toList (⟨#[46]⟩ : ByteArray).data.toList).2.2 = C3
      have HS3 := Lib.hid (HS2.out.below (drewN_below w2 nd))
      clear hcl HCT HS2
      generalize w2.drewN nd = w3 at *
      go_wp2_with fail
      refine (resv_any (txt (aheadL s.data.toList)) w3).mono ?_
      rintro e w4 ⟨rfl, hb⟩
      have HS4 := Lib.hid (HS3.out.below hb)
      clear hb HS3
      rw [txt_list]
      cases hrv : resv (aheadL s.data.toList)
      · have HT2 : Hid (toks2 s.data.toList = s.data.toList.map tokB) := by show _ = _; unfold toks2; rw [hrv]; rfl
        rw [← HT2.out] at HS4
        clear hrv
        go_wp2_with fail
        obtain ⟨n1, hn1⟩ : ∃ k, k + 1 = n := ⟨n - 1, by have := HN0.out; omega⟩
        have hsub : wrap64 ((n : Int) - 1) = (n1 : Int) := by rw [show ((n : Int) - 1) = (n1 : Int) by omega]; exact IntWalk.wrap64_in _ (by have := HNB.out; omega)
        have HN1 := Lib.hid hn1
        clear hn1
        go_wp2_with fail
        rw [hsub]
        clear hsub
        have HSL := HS4
        clear HS4
        go_loopw [44] (fun i wr => ∃ (k : Nat) (L : List (List UInt8)), k ≤ 2 ∧ i = .int .i64 (k : Int) ∧ L = (if k = 0 then toks2 s.data.toList else if k = 1 then setIf s.data.toList 0 (toks2 s.data.toList) else toks3 s.data.toList) ∧ SRow w g L wr) (fun i _ => 2 - (intOf i).toNat)
        case atStart => exact ⟨0, toks2 s.data.toList, by omega, rfl, rfl, HSL.out⟩
        case round =>
          rename World => wr
          obtain ⟨k, L, hk, rfl, hL, hsr⟩ := hrel
          have HS := Lib.hid hsr
          clear hsr HSL
          rcases (by omega : k = 0 ∨ k = 1 ∨ k = 2) with rfl | rfl | rfl
          · have HCU : Hid (L = toks2 s.data.toList) := hL
            have HLN : Hid (L.length = n) := by show _ = _; rw [hL]; show (toks2 _).length = _; rw [toks2_len, HPL.out]
            have HIV : Hid (0 < n) := HN0.out
            have hi0 : (0 : Int) < (n : Int) := by have := HN0.out; omega
            have hi0' : 0 < n := HN0.out
            rw [show ((0 : Nat) : Int) = 0 from rfl]
            clear hL hk
            have hix := fun W => index_text s 0 (by rw [HN.out]; exact HIV.out) (0 : Int) (by first | rfl | omega) W
            obtain ⟨c, hc⟩ : ∃ c, s.data.toList[0]? = some c := ⟨_, List.getElem?_eq_getElem (by rw [← Lib.size_eq, HN.out]; exact HIV.out)⟩
            have h8 : at8 s 0 = c.toNat := by unfold at8; rw [hc]; rfl
            rw [h8] at hix
            have HC := Lib.hid hc
            clear h8 hc
            by_cases hsp : spc c = true
            · have HNX : Hid (setIf s.data.toList 0 (toks2 s.data.toList) = L.set 0 (byNum c)) := by show _ = _; rw [setIf_yes _ (by rw [HC.out]; exact hsp), HC.out, Option.getD_some, ← HCU.out]
              have hcs : (c.toNat : Int) = 46 ∨ (¬ (c.toNat : Int) = 46 ∧ (c.toNat : Int) = 32) := by
                unfold spc at hsp
                simp only [Bool.or_eq_true, beq_iff_eq] at hsp
                rcases hsp with rfl | rfl
                · exact .inl rfl
                · exact .inr ⟨by decide, rfl⟩
              have HLI : Hid (∃ t, L[0]? = some t) := ⟨_, List.getElem?_eq_getElem (by rw [HLN.out]; exact HIV.out)⟩
              have HBN := Lib.hid (byNum_any c wr)
              obtain ⟨t0, ht0⟩ := HLI.out
              clear hsp
              generalize (c.toNat : Int) = ci at *
              rcases hcs with rfl | ⟨hn46, rfl⟩
              all_goals
                go_wp2_with (first
                  | refine wpList_index (by rfl) 40 _ _ rfl (.agg #[.int .i64 0, .int .i64 (n1 : Int)]) (.int .i64 0) rfl rfl (.int .i64 0) (idx_zero _) ?_)
                refine HBN.out.mono ?_
                rintro e w2 ⟨rfl, hb⟩
                have HS2 := Lib.hid (HS.out.below hb)
                clear hb
                have hco := HS2.out.cell (i := 0) ht0
                have hfo := frozen_of_row w2 g 0 _ _ HS2.out.row
                have HS3 := Lib.hid (HS2.out.set 0 (byNum c))
                go_wp2_with fail
                clear hco hfo
                rw [← HNX.out] at HS3
                exact ⟨⟨1, setIf s.data.toList 0 (toks2 s.data.toList), by omega, rfl, by rfl, HS3.out⟩, by simp [intOf]⟩
            · have HNX : Hid (setIf s.data.toList 0 (toks2 s.data.toList) = L) := by show _ = _; rw [setIf_no _ (by rw [HC.out, Option.getD_some]; exact Bool.eq_false_iff.2 hsp), ← HCU.out]
              have hn46 : ¬ (c.toNat : Int) = 46 := fun e => hsp (by rw [show c = 46 from UInt8.toNat_inj.1 (by show c.toNat = 46; omega)]; rfl)
              have hn32 : ¬ (c.toNat : Int) = 32 := fun e => hsp (by rw [show c = 32 from UInt8.toNat_inj.1 (by show c.toNat = 32; omega)]; rfl)
              have hb46 : ((c.toNat : Int) == 46) = false := beq_eq_false_iff_ne.2 hn46
              have hb32 : ((c.toNat : Int) == 32) = false := beq_eq_false_iff_ne.2 hn32
              clear hsp
              generalize (c.toNat : Int) = ci at *
              go_wp2_with (first
                | refine wpList_index (by rfl) 40 _ _ rfl (.agg #[.int .i64 0, .int .i64 (n1 : Int)]) (.int .i64 0) rfl rfl (.int .i64 0) (idx_zero _) ?_)
              rw [← HNX.out] at HS
              exact ⟨⟨1, setIf s.data.toList 0 (toks2 s.data.toList), by omega, rfl, by rfl, HS.out⟩, by simp [intOf]⟩
          · have HCU : Hid (L = setIf s.data.toList 0 (toks2 s.data.toList)) := hL
            have HLN : Hid (L.length = n) := by show _ = _; rw [hL]; show (setIf _ _ _).length = _; rw [setIf_len, toks2_len, HPL.out]
            have HIV : Hid (n1 < n) := by have := HN1.out; show _ < _; omega
            have hi0 : (n1 : Int) < (n : Int) := by have := HN1.out; omega
            have HT3 : Hid (toks3 s.data.toList = setIf s.data.toList n1 (setIf s.data.toList 0 (toks2 s.data.toList))) := by
              show _ = _
              unfold toks3
              rw [HPL.out, show n - 1 = n1 by have := HN1.out; omega]
            rw [show ((1 : Nat) : Int) = 1 from rfl]
            clear hL hk
            have hix := fun W => index_text s n1 (by rw [HN.out]; exact HIV.out) (n1 : Int) (by first | rfl | omega) W
            obtain ⟨c, hc⟩ : ∃ c, s.data.toList[n1]? = some c := ⟨_, List.getElem?_eq_getElem (by rw [← Lib.size_eq, HN.out]; exact HIV.out)⟩
            have h8 : at8 s n1 = c.toNat := by unfold at8; rw [hc]; rfl
            rw [h8] at hix
            have HC := Lib.hid hc
            clear h8 hc
            by_cases hsp : spc c = true
            · have HNX : Hid (setIf s.data.toList n1 (setIf s.data.toList 0 (toks2 s.data.toList)) = L.set n1 (byNum c)) := by show _ = _; rw [setIf_yes _ (by rw [HC.out]; exact hsp), HC.out, Option.getD_some, ← HCU.out]
              have hcs : (c.toNat : Int) = 46 ∨ (¬ (c.toNat : Int) = 46 ∧ (c.toNat : Int) = 32) := by
                unfold spc at hsp
                simp only [Bool.or_eq_true, beq_iff_eq] at hsp
                rcases hsp with rfl | rfl
                · exact .inl rfl
                · exact .inr ⟨by decide, rfl⟩
              have HLI : Hid (∃ t, L[n1]? = some t) := ⟨_, List.getElem?_eq_getElem (by rw [HLN.out]; exact HIV.out)⟩
              have HBN := Lib.hid (byNum_any c wr)
              obtain ⟨t0, ht0⟩ := HLI.out
              clear hsp
              generalize (c.toNat : Int) = ci at *
              rcases hcs with rfl | ⟨hn46, rfl⟩
              all_goals
                go_wp2_with (first
                  | refine wpList_index (by rfl) 40 _ _ rfl (.agg #[.int .i64 0, .int .i64 (n1 : Int)]) (.int .i64 1) rfl rfl (.int .i64 (n1 : Int)) (idx_one _) ?_)
                refine HBN.out.mono ?_
                rintro e w2 ⟨rfl, hb⟩
                have HS2 := Lib.hid (HS.out.below hb)
                clear hb
                have hco := HS2.out.cell (i := n1) ht0
                have hfo := frozen_of_row w2 g n1 _ _ HS2.out.row
                have HS3 := Lib.hid (HS2.out.set n1 (byNum c))
                go_wp2_with fail
                clear hco hfo
                rw [← HNX.out] at HS3
                exact ⟨⟨2, setIf s.data.toList n1 (setIf s.data.toList 0 (toks2 s.data.toList)), by omega, rfl, HT3.out.symm, HS3.out⟩, by simp [intOf]⟩
            · have HNX : Hid (setIf s.data.toList n1 (setIf s.data.toList 0 (toks2 s.data.toList)) = L) := by show _ = _; rw [setIf_no _ (by rw [HC.out, Option.getD_some]; exact Bool.eq_false_iff.2 hsp), ← HCU.out]
              have hn46 : ¬ (c.toNat : Int) = 46 := fun e => hsp (by rw [show c = 46 from UInt8.toNat_inj.1 (by show c.toNat = 46; omega)]; rfl)
              have hn32 : ¬ (c.toNat : Int) = 32 := fun e => hsp (by rw [show c = 32 from UInt8.toNat_inj.1 (by show c.toNat = 32; omega)]; rfl)
              have hb46 : ((c.toNat : Int) == 46) = false := beq_eq_false_iff_ne.2 hn46
              have hb32 : ((c.toNat : Int) == 32) = false := beq_eq_false_iff_ne.2 hn32
              clear hsp
              generalize (c.toNat : Int) = ci at *
              go_wp2_with (first
                | refine wpList_index (by rfl) 40 _ _ rfl (.agg #[.int .i64 0, .int .i64 (n1 : Int)]) (.int .i64 1) rfl rfl (.int .i64 (n1 : Int)) (idx_one _) ?_)
              rw [← HNX.out] at HS
              exact ⟨⟨2, setIf s.data.toList n1 (setIf s.data.toList 0 (toks2 s.data.toList)), by omega, rfl, HT3.out.symm, HS.out⟩, by simp [intOf]⟩
          · have HCU : Hid (L = toks3 s.data.toList) := hL
            rw [HCU.out] at HS
            have HL3 : Hid ((toks3 s.data.toList).flatten.length ≤ 3000) := by
              show _ ≤ _
              have := flat_le (toks3 s.data.toList) fun t ht => (toks_len (toks3_all s.data.toList) t ht).2
              rw [(toks3_all s.data.toList).1, HPL.out] at this
              have := HNB.out
              omega
            have HJ := Lib.hid (join_row (toks3 s.data.toList) [] w wr g n HS.out (by rw [(toks3_all s.data.toList).1]; exact HPL.out) (by have := HNB.out; omega) (by rw [join_empty]; have := HL3.out; omega))
            rw [join_empty] at HJ
            rw [show ((2 : Nat) : Int) = 2 from rfl]
            clear hL hk
            go_wp2_with fail
            refine HJ.out.mono ?_
            rintro e w9 ⟨rfl, hb⟩
            have HB9 := Lib.hid ((HS.out.below hb).bel)
            clear hb
            go_wp2_with fail
            go_ret
            exact ⟨rfl, HB9.out⟩
      · have HT2 : Hid (toks2 s.data.toList = (s.data.toList.map tokB).set 2 (byNum (s.data.toList[2]?.getD 0))) := by show _ = _; unfold toks2; rw [hrv]; rfl
        have HN3 : Hid (3 ≤ n) := by have := resv_len hrv; rw [HPL.out] at this; exact this
        have h2n : (2 : Int) < (n : Int) := by have := HN3.out; omega
        have h2n' : 2 < n := by have := HN3.out; omega
        have hix := fun W => index_text s 2 (by rw [HN.out]; exact h2n') 2 rfl W
        obtain ⟨c, hc⟩ : ∃ c, s.data.toList[2]? = some c := ⟨_, List.getElem?_eq_getElem (by rw [HPL.out]; exact h2n')⟩
        have h8 : at8 s 2 = c.toNat := by unfold at8; rw [hc]; rfl
        rw [h8] at hix
        rw [hc, Option.getD_some] at HT2
        have HBN := Lib.hid (byNum_any c w4)
        have HCU : Hid (∃ t, (s.data.toList.map tokB)[2]? = some t) := ⟨_, List.getElem?_eq_getElem (by rw [List.length_map, HPL.out]; exact h2n')⟩
        obtain ⟨t0, ht0⟩ := HCU.out
        clear hrv h8 hc
        generalize (c.toNat : Int) = ci at *
        go_wp2_with fail
        refine HBN.out.mono ?_
        rintro e w5 ⟨rfl, hb⟩
        have HS5 := Lib.hid (HS4.out.below hb)
        have hco := HS5.out.cell ht0
        have hfo := frozen_of_row w5 g 2 _ _ HS5.out.row
        have HS6 := Lib.hid (HS5.out.set 2 (byNum c))
        rw [← HT2.out] at HS6
        clear hb HS5 HS4 HCU
        go_wp2_with fail
        clear hco hfo
        have HS4 := HS6
        clear HS6
        generalize w5.setCell ⟨g, 2, none⟩ (.string (txt (byNum c))) = w4' at *
        obtain ⟨n1, hn1⟩ : ∃ k, k + 1 = n := ⟨n - 1, by have := HN0.out; omega⟩
        have hsub : wrap64 ((n : Int) - 1) = (n1 : Int) := by rw [show ((n : Int) - 1) = (n1 : Int) by omega]; exact IntWalk.wrap64_in _ (by have := HNB.out; omega)
        have HN1 := Lib.hid hn1
        clear hn1
        go_wp2_with fail
        rw [hsub]
        clear hsub
        have HSL := HS4
        clear HS4
        go_loopw [44] (fun i wr => ∃ (k : Nat) (L : List (List UInt8)), k ≤ 2 ∧ i = .int .i64 (k : Int) ∧ L = (if k = 0 then toks2 s.data.toList else if k = 1 then setIf s.data.toList 0 (toks2 s.data.toList) else toks3 s.data.toList) ∧ SRow w g L wr) (fun i _ => 2 - (intOf i).toNat)
        case atStart => exact ⟨0, toks2 s.data.toList, by omega, rfl, rfl, HSL.out⟩
        case round =>
          rename World => wr
          obtain ⟨k, L, hk, rfl, hL, hsr⟩ := hrel
          have HS := Lib.hid hsr
          clear hsr HSL
          rcases (by omega : k = 0 ∨ k = 1 ∨ k = 2) with rfl | rfl | rfl
          · have HCU : Hid (L = toks2 s.data.toList) := hL
            have HLN : Hid (L.length = n) := by show _ = _; rw [hL]; show (toks2 _).length = _; rw [toks2_len, HPL.out]
            have HIV : Hid (0 < n) := HN0.out
            have hi0 : (0 : Int) < (n : Int) := by have := HN0.out; omega
            have hi0' : 0 < n := HN0.out
            rw [show ((0 : Nat) : Int) = 0 from rfl]
            clear hL hk
            have hix := fun W => index_text s 0 (by rw [HN.out]; exact HIV.out) (0 : Int) (by first | rfl | omega) W
            obtain ⟨c, hc⟩ : ∃ c, s.data.toList[0]? = some c := ⟨_, List.getElem?_eq_getElem (by rw [← Lib.size_eq, HN.out]; exact HIV.out)⟩
            have h8 : at8 s 0 = c.toNat := by unfold at8; rw [hc]; rfl
            rw [h8] at hix
            have HC := Lib.hid hc
            clear h8 hc
            by_cases hsp : spc c = true
            · have HNX : Hid (setIf s.data.toList 0 (toks2 s.data.toList) = L.set 0 (byNum c)) := by show _ = _; rw [setIf_yes _ (by rw [HC.out]; exact hsp), HC.out, Option.getD_some, ← HCU.out]
              have hcs : (c.toNat : Int) = 46 ∨ (¬ (c.toNat : Int) = 46 ∧ (c.toNat : Int) = 32) := by
                unfold spc at hsp
                simp only [Bool.or_eq_true, beq_iff_eq] at hsp
                rcases hsp with rfl | rfl
                · exact .inl rfl
                · exact .inr ⟨by decide, rfl⟩
              have HLI : Hid (∃ t, L[0]? = some t) := ⟨_, List.getElem?_eq_getElem (by rw [HLN.out]; exact HIV.out)⟩
              have HBN := Lib.hid (byNum_any c wr)
              obtain ⟨t0, ht0⟩ := HLI.out
              clear hsp
              generalize (c.toNat : Int) = ci at *
              rcases hcs with rfl | ⟨hn46, rfl⟩
              all_goals
                go_wp2_with (first
                  | refine wpList_index (by rfl) 40 _ _ rfl (.agg #[.int .i64 0, .int .i64 (n1 : Int)]) (.int .i64 0) rfl rfl (.int .i64 0) (idx_zero _) ?_)
                refine HBN.out.mono ?_
                rintro e w2 ⟨rfl, hb⟩
                have HS2 := Lib.hid (HS.out.below hb)
                clear hb
                have hco := HS2.out.cell (i := 0) ht0
                have hfo := frozen_of_row w2 g 0 _ _ HS2.out.row
                have HS3 := Lib.hid (HS2.out.set 0 (byNum c))
                go_wp2_with fail
                clear hco hfo
                rw [← HNX.out] at HS3
                exact ⟨⟨1, setIf s.data.toList 0 (toks2 s.data.toList), by omega, rfl, by rfl, HS3.out⟩, by simp [intOf]⟩
            · have HNX : Hid (setIf s.data.toList 0 (toks2 s.data.toList) = L) := by show _ = _; rw [setIf_no _ (by rw [HC.out, Option.getD_some]; exact Bool.eq_false_iff.2 hsp), ← HCU.out]
              have hn46 : ¬ (c.toNat : Int) = 46 := fun e => hsp (by rw [show c = 46 from UInt8.toNat_inj.1 (by show c.toNat = 46; omega)]; rfl)
              have hn32 : ¬ (c.toNat : Int) = 32 := fun e => hsp (by rw [show c = 32 from UInt8.toNat_inj.1 (by show c.toNat = 32; omega)]; rfl)
              have hb46 : ((c.toNat : Int) == 46) = false := beq_eq_false_iff_ne.2 hn46
              have hb32 : ((c.toNat : Int) == 32) = false := beq_eq_false_iff_ne.2 hn32
              clear hsp
              generalize (c.toNat : Int) = ci at *
              go_wp2_with (first
                | refine wpList_index (by rfl) 40 _ _ rfl (.agg #[.int .i64 0, .int .i64 (n1 : Int)]) (.int .i64 0) rfl rfl (.int .i64 0) (idx_zero _) ?_)
              rw [← HNX.out] at HS
              exact ⟨⟨1, setIf s.data.toList 0 (toks2 s.data.toList), by omega, rfl, by rfl, HS.out⟩, by simp [intOf]⟩
          · have HCU : Hid (L = setIf s.data.toList 0 (toks2 s.data.toList)) := hL
            have HLN : Hid (L.length = n) := by show _ = _; rw [hL]; show (setIf _ _ _).length = _; rw [setIf_len, toks2_len, HPL.out]
            have HIV : Hid (n1 < n) := by have := HN1.out; show _ < _; omega
            have hi0 : (n1 : Int) < (n : Int) := by have := HN1.out; omega
            have HT3 : Hid (toks3 s.data.toList = setIf s.data.toList n1 (setIf s.data.toList 0 (toks2 s.data.toList))) := by
              show _ = _
              unfold toks3
              rw [HPL.out, show n - 1 = n1 by have := HN1.out; omega]
            rw [show ((1 : Nat) : Int) = 1 from rfl]
            clear hL hk
            have hix := fun W => index_text s n1 (by rw [HN.out]; exact HIV.out) (n1 : Int) (by first | rfl | omega) W
            obtain ⟨c, hc⟩ : ∃ c, s.data.toList[n1]? = some c := ⟨_, List.getElem?_eq_getElem (by rw [← Lib.size_eq, HN.out]; exact HIV.out)⟩
            have h8 : at8 s n1 = c.toNat := by unfold at8; rw [hc]; rfl
            rw [h8] at hix
            have HC := Lib.hid hc
            clear h8 hc
            by_cases hsp : spc c = true
            · have HNX : Hid (setIf s.data.toList n1 (setIf s.data.toList 0 (toks2 s.data.toList)) = L.set n1 (byNum c)) := by show _ = _; rw [setIf_yes _ (by rw [HC.out]; exact hsp), HC.out, Option.getD_some, ← HCU.out]
              have hcs : (c.toNat : Int) = 46 ∨ (¬ (c.toNat : Int) = 46 ∧ (c.toNat : Int) = 32) := by
                unfold spc at hsp
                simp only [Bool.or_eq_true, beq_iff_eq] at hsp
                rcases hsp with rfl | rfl
                · exact .inl rfl
                · exact .inr ⟨by decide, rfl⟩
              have HLI : Hid (∃ t, L[n1]? = some t) := ⟨_, List.getElem?_eq_getElem (by rw [HLN.out]; exact HIV.out)⟩
              have HBN := Lib.hid (byNum_any c wr)
              obtain ⟨t0, ht0⟩ := HLI.out
              clear hsp
              generalize (c.toNat : Int) = ci at *
              rcases hcs with rfl | ⟨hn46, rfl⟩
              all_goals
                go_wp2_with (first
                  | refine wpList_index (by rfl) 40 _ _ rfl (.agg #[.int .i64 0, .int .i64 (n1 : Int)]) (.int .i64 1) rfl rfl (.int .i64 (n1 : Int)) (idx_one _) ?_)
                refine HBN.out.mono ?_
                rintro e w2 ⟨rfl, hb⟩
                have HS2 := Lib.hid (HS.out.below hb)
                clear hb
                have hco := HS2.out.cell (i := n1) ht0
                have hfo := frozen_of_row w2 g n1 _ _ HS2.out.row
                have HS3 := Lib.hid (HS2.out.set n1 (byNum c))
                go_wp2_with fail
                clear hco hfo
                rw [← HNX.out] at HS3
                exact ⟨⟨2, setIf s.data.toList n1 (setIf s.data.toList 0 (toks2 s.data.toList)), by omega, rfl, HT3.out.symm, HS3.out⟩, by simp [intOf]⟩
            · have HNX : Hid (setIf s.data.toList n1 (setIf s.data.toList 0 (toks2 s.data.toList)) = L) := by show _ = _; rw [setIf_no _ (by rw [HC.out, Option.getD_some]; exact Bool.eq_false_iff.2 hsp), ← HCU.out]
              have hn46 : ¬ (c.toNat : Int) = 46 := fun e => hsp (by rw [show c = 46 from UInt8.toNat_inj.1 (by show c.toNat = 46; omega)]; rfl)
              have hn32 : ¬ (c.toNat : Int) = 32 := fun e => hsp (by rw [show c = 32 from UInt8.toNat_inj.1 (by show c.toNat = 32; omega)]; rfl)
              have hb46 : ((c.toNat : Int) == 46) = false := beq_eq_false_iff_ne.2 hn46
              have hb32 : ((c.toNat : Int) == 32) = false := beq_eq_false_iff_ne.2 hn32
              clear hsp
              generalize (c.toNat : Int) = ci at *
              go_wp2_with (first
                | refine wpList_index (by rfl) 40 _ _ rfl (.agg #[.int .i64 0, .int .i64 (n1 : Int)]) (.int .i64 1) rfl rfl (.int .i64 (n1 : Int)) (idx_one _) ?_)
              rw [← HNX.out] at HS
              exact ⟨⟨2, setIf s.data.toList n1 (setIf s.data.toList 0 (toks2 s.data.toList)), by omega, rfl, HT3.out.symm, HS.out⟩, by simp [intOf]⟩
          · have HCU : Hid (L = toks3 s.data.toList) := hL
            rw [HCU.out] at HS
            have HL3 : Hid ((toks3 s.data.toList).flatten.length ≤ 3000) := by
              show _ ≤ _
              have := flat_le (toks3 s.data.toList) fun t ht => (toks_len (toks3_all s.data.toList) t ht).2
              rw [(toks3_all s.data.toList).1, HPL.out] at this
              have := HNB.out
              omega
            have HJ := Lib.hid (join_row (toks3 s.data.toList) [] w wr g n HS.out (by rw [(toks3_all s.data.toList).1]; exact HPL.out) (by have := HNB.out; omega) (by rw [join_empty]; have := HL3.out; omega))
            rw [join_empty] at HJ
            rw [show ((2 : Nat) : Int) = 2 from rfl]
            clear hL hk
            go_wp2_with fail
            refine HJ.out.mono ?_
            rintro e w9 ⟨rfl, hb⟩
            have HB9 := Lib.hid ((HS.out.below hb).bel)
            clear hb
            go_wp2_with fail
            go_ret
            exact ⟨rfl, HB9.out⟩
end Go.Proofs.YtmjpejnpcmodgaaDoor
