/- The document's front and lines: the walks. -/
import Derived.Test.YtindmggmblmmcaaGreatDoorCoRawM
namespace Go.Proofs.YtindmggmblmmcaaGreatDoor
open Go.RowKit Plain Go.ChangeShapes Go.WideShapes Go.ChangeAt Go.Great
set_option linter.unusedVariables false
set_option linter.unusedSimpArgs false
set_option maxRecDepth 100000 in
set_option maxHeartbeats 8000000 in
theorem frontw_any (k l : List UInt8) (w : World) (hk : k.length ≤ 1000) (hl : l.length ≤ 1000000) : Calls Tryz.prog 48 #[.string (txt l), .string (txt k)] w fun e w' => e = .returned (.string (txt (frontW k l))) ∧ Below w.heap.size w w' := by
  have hzl := txt_size l
  have hzk := txt_size k
  obtain ⟨n, hn⟩ : ∃ n, l.length = n := ⟨_, rfl⟩
  obtain ⟨m, hm⟩ : ∃ n, k.length = n := ⟨_, rfl⟩
  by_cases hge : m ≤ n
  · have hs1 := fun W => slice_fr l m (by omega) W
    have hs2 := fun W => slice_tl l m (by omega) (m : Int) rfl W
    obtain ⟨b, hb⟩ : ∃ b, (l.take m == k) = b := ⟨_, rfl⟩
    have HEQ : Hid (∀ W, (binOp .eql 9 (.string (txt (l.take m))) (.string (txt k))).run Tryz.prog W = .ok (.bool b) W) := fun W => by rw [str_eql, txt_list, txt_list, hb]
    have HF : Hid (frontW k l = if b = true then l.drop m else []) := by
      show _ = _
      unfold frontW
      rw [hm]
      by_cases hp : k.isPrefixOf l = true
      · obtain ⟨r, hr⟩ := List.isPrefixOf_iff_prefix.1 hp
        have : b = true := by rw [← hb, beq_iff_eq, ← hr, ← hm, List.take_left]
        rw [if_pos hp, if_pos this]
      · have : ¬ b = true := fun e => by
          rw [← hb, beq_iff_eq] at e
          exact hp (List.isPrefixOf_iff_prefix.2 ⟨l.drop m, by rw [← e, List.take_append_drop]⟩)
        rw [if_neg hp, if_neg this]
    have hgi : (m : Int) ≤ (n : Int) := by omega
    rw [hn] at hzl
    rw [hm] at hzk
    clear hb hn hm hk hl hge
    go_enter Tryz.func48, Tryz.ntmps48
    cases b
    · go_wp2_with (first
        | refine wpList_eql (by rfl) .eql 9 _ _ _ rfl (.string (txt (l.take m))) (.string (txt k)) rfl rfl (.bool false) (guard_eq _ _ _ _) HEQ.out ?_)
      go_ret
      exact ⟨by rw [HF.out] <;> rfl, Below.refl _ _⟩
    · go_wp2_with (first
        | refine wpList_eql (by rfl) .eql 9 _ _ _ rfl (.string (txt (l.take m))) (.string (txt k)) rfl rfl (.bool true) (guard_eq _ _ _ _) HEQ.out ?_)
      go_ret
      exact ⟨by rw [HF.out] <;> rfl, Below.refl _ _⟩
  · have HF : Hid (frontW k l = []) := by
      show _ = _
      unfold frontW
      rw [if_neg]
      intro hp
      obtain ⟨r, hr⟩ := List.isPrefixOf_iff_prefix.1 hp
      have := congrArg List.length hr
      rw [List.length_append] at this
      omega
    have hgi : ¬ (m : Int) ≤ (n : Int) := by omega
    rw [hn] at hzl
    rw [hm] at hzk
    clear hn hm hk hl hge
    go_enter Tryz.func48, Tryz.ntmps48
    go_wp2_with fail
    go_ret
    exact ⟨by rw [HF.out] <;> rfl, Below.refl _ _⟩
theorem ln_snoc {l : List UInt8} {k : Nat} {q : UInt8} (h : l[k]? = some q) : lnS (l.take (k + 1)) = lnStep (lnS (l.take k)) q := by
  unfold lnS
  rw [take_snoc h, List.foldl_append]
  rfl
theorem ln_len : ∀ (l : List UInt8) (d : List (List UInt8)) (o : List UInt8), (l.foldl lnStep (d, o)).1.length + (l.foldl lnStep (d, o)).2.length ≤ d.length + o.length + l.length
  | [], d, o => by simp
  | c :: r, d, o => by
    rw [List.foldl_cons]
    by_cases hc : c = 10
    · rw [show lnStep (d, o) c = (d ++ [o], []) from if_pos hc]
      have := ln_len r (d ++ [o]) []
      simp only [List.length_append, List.length_cons, List.length_nil] at this ⊢
      omega
    · rw [show lnStep (d, o) c = (d, o ++ [c]) from if_neg hc]
      have := ln_len r d (o ++ [c])
      simp only [List.length_append, List.length_cons, List.length_nil] at this ⊢
      omega
/-- The lines, in a new row. -/
def LinesQ (base : Nat) (e : Ending) (w' : World) (L : List UInt8) : Prop := ∃ a c, e = .returned (.slice (some a) (linesF L).length c) ∧ OwnG 1 strE 9 w' base (.slice (some a) (linesF L).length c) ((linesF L).map txt)
set_option maxRecDepth 100000 in
set_option maxHeartbeats 16000000 in
theorem lines_any (L : List UInt8) (w : World) (hl : L.length ≤ 40000) :
    Calls Tryz.prog 46 #[.string (txt L)] w fun e w' => LinesQ w.heap.size e w' L ∧ Below w.heap.size w w' := by
  obtain ⟨n, hn⟩ : ∃ n, (txt L).size = n := ⟨_, rfl⟩
  have HN := Lib.hid hn
  have HNL : Hid (L.length = n) := by rw [← hn, txt_size]; rfl
  have HNB : Hid (n ≤ 40000) := by rw [← HNL.out]; exact hl
  have hlen : (txt L).size = n := hn
  clear hl hn
  go_enter Tryz.func46, Tryz.ntmps46
  go_wp2_with fail
  go_loopw [3, 4, 5] (fun d s i wr => ∃ (k : Nat) (a : Option Addr) (c dn : Nat) (D : List (List UInt8)) (o : List UInt8), k ≤ n ∧ lnS (L.take k) = (D, o) ∧ D.length = dn ∧ d = .slice a dn c ∧ s = .string (txt o) ∧ i = .int .i64 (k : Int) ∧ OwnG 1 strE 9 wr w.heap.size (.slice a dn c) (D.map txt) ∧ Below w.heap.size w wr) (fun _ _ i _ => n - (intOf i).toNat)
  case atStart => exact ⟨0, none, 0, 0, [], [], Nat.zero_le _, rfl, rfl, rfl, rfl, rfl, OwnG.nil _ _ _, Below.refl _ _⟩
  case round =>
    rename World => wr
    obtain ⟨k, a, c, dn, D, o, hk, hds, hdn, rfl, rfl, rfl, ho, hb⟩ := hrel
    have HO := Lib.hid ho
    have HBW := Lib.hid hb
    have WK := Lib.hid (next_int k (by have := HNB.out; omega))
    have hlen2 := ln_len (L.take k) [] []
    have hds' : (L.take k).foldl lnStep ([], []) = (D, o) := hds
    rw [hds'] at hlen2
    have htk : (L.take k).length ≤ n := by rw [List.length_take, HNL.out]; omega
    simp only [List.length_nil] at hlen2
    have HDL : Hid (dn + o.length ≤ n) := by show _ ≤ _; omega
    have HDM : Hid ((D.map txt).length = dn) := by show _ = _; rw [List.length_map]; exact hdn
    have HDN : Hid (D.map txt ++ [txt o] = (D ++ [o]).map txt) := by show _ = _; rw [List.map_append]; rfl
    have HBA : Hid (Below w.heap.size w (wr.alloc (.cells (strE (txt o)).toArray 9))) := HBW.out.alloc HBW.out.size _
    have HOA : Hid (OwnG 1 strE 9 (wr.alloc (.cells (strE (txt o)).toArray 9)) w.heap.size (.slice a dn c) (D.map txt)) := HO.out.below ((Below.refl _ _).alloc (Nat.le_refl _) _)
    have HDS := Lib.hid hds
    have HDC := Lib.hid hdn
    clear ho hb hlen2 hds' htk hds hdn
    by_cases hkn : k < n
    · have hki : (k : Int) < (n : Int) := by omega
      have HKN := Lib.hid hkn
      obtain ⟨q, hq⟩ : ∃ b, L[k]? = some b := ⟨_, List.getElem?_eq_getElem (by rw [HNL.out]; exact hkn)⟩
      have hix := fun W => index_text (txt L) k (by rw [HN.out]; exact hkn) (k : Int) rfl W
      rw [at8_txt, hq, Option.getD_some] at hix
      have hsn := ln_snoc hq
      rw [HDS.out] at hsn
      by_cases hq10 : q = 10
      · subst hq10
        have hix' : ∀ W, (Instr.index 9 (.string (txt L)) (.int .i64 (k : Int))).run Tryz.prog W = .ok (.int .u8 10) W := hix
        have HSN : Hid (lnS (L.take (k + 1)) = (D ++ [o], [])) := hsn
        have HD2 : Hid ((D ++ [o]).length = dn + 1) := by show _ = _; rw [List.length_append, HDC.out]; rfl
        clear hix hq hsn hkn hk
        go_wp2_with (first
          | (refine wpList_slice rfl 98 1 #[(0, _)] rfl #[(0, .string (txt o))] (map_one _ _ _ rfl) _ _ (slice_G1 elem_str (by decide) (by decide) (by decide) strE_len (txt o) (.string (txt o)) rfl wr) ?_)
          | (refine wpList_append_G elem_str strE_len (by decide) (by decide) strE_one rfl _ _ rfl w.heap.size (.slice a dn c) (D.map txt) dn HDM.out rfl HOA.out wr.heap.size 0 1 1 [(txt o)] rfl (by decide) rfl (one_G wr 9 (txt o)) (dn + 1) ((D ++ [o]).map txt) rfl HDN.out (by have := HDL.out; have := HNB.out; omega) HBA.out.size ?_
             rintro g2 gc2 w7 ho7 hg7 hgg hgl
             have HO7 := Lib.hid ho7
             have HB7 : Hid (Below w.heap.size w w7) := HBA.out.grown hg7 HBA.out.size (fun g hg => (HOA.out.lt hg).1)
             clear ho7 hg7 hgg hgl))
        exact ⟨⟨k + 1, some ⟨g2, 0, none⟩, gc2, dn + 1, D ++ [o], [], HKN.out, HSN.out, HD2.out, rfl, rfl, by first | rw [WK.out _ rfl] | rfl, HO7.out, HB7.out⟩, by have := HKN.out; (first | rw [WK.out _ rfl] | skip); simp [intOf]; omega⟩
      · have hi10 : ¬ ((q.toNat : Nat) : Int) = 10 := fun h => hq10 (UInt8.toNat_inj.1 (by show q.toNat = 10; omega))
        have hb10 : (((q.toNat : Nat) : Int) == 10) = false := beq_eq_false_iff_ne.2 hi10
        have HSN : Hid (lnS (L.take (k + 1)) = (D, o ++ [q])) := by show _ = _; rw [hsn]; exact if_neg hq10
        have hsl : ∀ W, (Instr.slice 9 (.string (txt L)) (some (.int .i64 (k : Int))) (some (.int .i64 ((k : Int) + 1))) none).run Tryz.prog W = .ok (.string (txt [q])) W := fun W => by
          have h1 := slice_txt L k (k + 1) (by omega) (by rw [HNL.out]; omega) _ ((k : Int) + 1) rfl (by omega) W
          rw [show (L.drop k).take (k + 1 - k) = [q] by
            obtain ⟨hlt, he⟩ := List.getElem?_eq_some_iff.1 hq
            rw [List.drop_eq_getElem_cons hlt, he, Nat.add_sub_cancel_left]; rfl] at h1
          exact h1
        have hw1 : wrap64 ((k : Int) + 1) = (k : Int) + 1 := by rw [WK.out _ rfl]; omega
        have HAD : Hid (∀ W, (binOp .add 9 (.string (txt o)) (.string (txt [q]))).run Tryz.prog W = .ok (.string (txt (o ++ [q]))) W) := fun W => add_txt _ _ _ (by rw [txt_list, txt_list]) (by rw [txt_size, txt_size]; have := HDL.out; have := HNB.out; simp only [List.length_cons, List.length_nil]; omega) W
        have HOK := Lib.hid HO.out
        clear hq10 hq hsn hkn hk
        generalize ((q.toNat : Nat) : Int) = qi at *
        go_wp2_with (first
          | refine wpList_eql (by rfl) .add 9 _ _ _ rfl (.string (txt o)) (.string (txt [q])) rfl rfl (.string (txt (o ++ [q]))) (guard_addn _ _ _ _) HAD.out ?_)
        exact ⟨⟨k + 1, a, c, dn, D, o ++ [q], HKN.out, HSN.out, HDC.out, rfl, rfl, by first | rw [WK.out _ rfl] | rfl, HOK.out, HBW.out⟩, by have := HKN.out; (first | rw [WK.out _ rfl] | skip); simp [intOf]; omega⟩
    · have hki : ¬ (k : Int) < (n : Int) := by omega
      have HLF : Hid (linesF L = D ++ [o]) := by
        show _ = _
        have := HDS.out
        rw [List.take_of_length_le (by rw [HNL.out]; omega)] at this
        unfold linesF
        rw [this]
      have HD2 : Hid ((linesF L).length = dn + 1) := by show _ = _; rw [HLF.out, List.length_append, HDC.out]; rfl
      clear hkn hk
      go_wp2_with (first
        | (refine wpList_slice rfl 98 1 #[(0, _)] rfl #[(0, .string (txt o))] (map_one _ _ _ rfl) _ _ (slice_G1 elem_str (by decide) (by decide) (by decide) strE_len (txt o) (.string (txt o)) rfl wr) ?_)
        | (refine wpList_append_G elem_str strE_len (by decide) (by decide) strE_one rfl _ _ rfl w.heap.size (.slice a dn c) (D.map txt) dn HDM.out rfl HOA.out wr.heap.size 0 1 1 [(txt o)] rfl (by decide) rfl (one_G wr 9 (txt o)) (dn + 1) ((D ++ [o]).map txt) rfl HDN.out (by have := HDL.out; have := HNB.out; omega) HBA.out.size ?_
           rintro g2 gc2 w7 ho7 hg7 hgg hgl
           have HO7 := Lib.hid ho7
           have HB7 : Hid (Below w.heap.size w w7) := HBA.out.grown hg7 HBA.out.size (fun g hg => (HOA.out.lt hg).1)
           clear ho7 hg7 hgg hgl))
      go_ret
      exact ⟨⟨⟨g2, 0, none⟩, gc2, by rw [HD2.out]; rfl, by rw [HD2.out, HLF.out]; exact HO7.out⟩, HB7.out⟩
end Go.Proofs.YtindmggmblmmcaaGreatDoor
