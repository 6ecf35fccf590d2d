/- marks.Print: the walk. -/
import Derived.Test.YtlhdjbnilfbaoaaMkRight
import Derived.Test.YtlhdjbnilfbaoaaWriteS
import Derived.Test.YtlhdjbnilfbaoaaNums
namespace Go.Proofs.Ytlhdjbnilfbaoaa
open Go.RowKit Plain
set_option linter.unusedVariables false
set_option linter.unusedSimpArgs false
theorem _root_.Go.Lib.IsBuilder.belowB {T e : TypeId} {B b : Nat} {bs : List Value} {w w' : World} (h : Lib.IsBuilder T e B b bs w) (hb : Below w.heap.size w w') : Lib.IsBuilder T e B b bs w' := by
  have key : ∀ p, Lib.BuilderAt T e B b p bs w → Lib.BuilderAt T e B b p bs w' := fun p hp => by
    obtain ⟨h1, v, h2, ⟨h3, h4⟩, h5⟩ := hp
    refine ⟨h1, v, (hb.block b (Array.getElem?_eq_some_iff.1 h2).1).trans h2, ⟨h3, ?_⟩, h5⟩
    rcases h4 with h4 | ⟨g, cap, cur, e1, e2, e3, e4⟩
    · exact .inl h4
    · exact .inr ⟨g, cap, cur, e1, e2, (hb.block g (Array.getElem?_eq_some_iff.1 e3).1).trans e3, e4⟩
  exact h.imp (key _) (key _)
theorem add_small (a b : ByteArray) (h : a.size + b.size ≤ 100000000) (W : World) : (Op.stringOp .add a b).run Try.prog W = .ok (.string (a ++ b)) W := run_string_add_sum W a b (by omega)
theorem hexB_size (id : List Int) (h : id.length = 20) : (⟨(hexOf id).toArray⟩ : ByteArray).size = 40 := by
  show (hexOf id).toArray.size = 40
  rw [List.size_toArray, hexOf_length, h]
theorem textT_snoc {ps : List (List Int)} {k : Nat} {p : List Int} (h : ps[k]? = some p) : textT (ps.take (k + 1)) = textT (ps.take k) ++ lineT p := by
  rw [take_snoc h, textT_app]
  congr 1
  unfold textT; simp
theorem line_parts (p : List Int) : (((⟨(hexOf (p.take 20)).toArray⟩ : ByteArray) ++ (⟨#[32]⟩ : ByteArray)) ++ (⟨(hexOf (p.drop 20)).toArray⟩ : ByteArray) ++ (⟨#[10]⟩ : ByteArray)).data.toList = lineT p := by
  unfold lineT
  simp
def MkPrint (base : Nat) (e : Ending) (w' : World) (ps : List (List Int)) : Prop :=
  if rightP ps = true then ∃ g c, e = .returned (.tuple #[.slice (some ⟨g, 0, none⟩) (textT ps).length c, .int .i64 0]) ∧ base ≤ g ∧ (textT ps).length ≤ c ∧ Bytes w' (some ⟨g, 0, none⟩) (textT ps).length (numsOf (txt (textT ps)))
  else e = .returned (.tuple #[.slice none 0 0, .int .i64 9])
set_option maxRecDepth 100000 in
set_option maxHeartbeats 32000000 in
theorem mprint_any (a : Option Addr) (c : Nat) (ps : List (List Int)) (w : World) (h : PsAt w a ps) (hn : ps.length ≤ 1000000) (hgp : ∀ p ∈ ps, ∀ x ∈ p, 0 ≤ x ∧ x ≤ 255) :
    Calls Try.prog 6 #[.slice a ps.length c] w fun e w' => MkPrint w.heap.size e w' ps ∧ Below w.heap.size w w' := by
  have H := Lib.hid h
  have HALL := Lib.hid hgp
  have hzp := zero_pair
  have HRT := Lib.hid (mright_any a c ps w h hn hgp)
  obtain ⟨n, hnl⟩ : ∃ n, ps.length = n := ⟨_, rfl⟩
  have HN := Lib.hid hnl
  have HNB : Hid (n ≤ 1000000) := by show _ ≤ _; omega
  have HTLA : Hid (∀ k, (textT (ps.take k)).length ≤ 82 * n) := fun k => by
    rw [textT_len (fun p hp => h.each p (List.mem_of_mem_take hp)), List.length_take]; omega
  rw [hnl] at HRT ⊢
  clear h hn hgp hnl
  go_enter Try.func6, Try.ntmps6
  go_wp2_with fail
  refine HRT.out.mono ?_
  rintro e w1 ⟨rfl, hb⟩
  have HB1 := Lib.hid hb
  clear hb HRT
  cases hrp : rightP ps
  · have HP : Hid (MkPrint w.heap.size (.returned (.tuple #[.slice none 0 0, .int .i64 9])) w1 ps) := by
      show MkPrint _ _ _ _
      unfold MkPrint
      rw [hrp, if_neg (by decide)]
    clear hrp
    go_wp2_with fail
    go_ret2
    exact ⟨HP.out, HB1.out⟩
  · have HRP := Lib.hid hrp
    have HBU0 : Hid (Lib.IsBuilder 50 5 w1.heap.size w1.heap.size (Lib.byteCells (textT (ps.take 0))) (w1.alloc (.cells #[.pointer none, .slice none 0 0] 50))) :=
      .inl ⟨Nat.le_refl _, _, heap_alloc_new w1 _, World.ownsRow_nil _ _ _ _, by simp [Value.ownBlock]⟩
    have HB2 : Hid (Below w1.heap.size w1 (w1.alloc (.cells #[.pointer none, .slice none 0 0] 50))) := (Below.refl _ _).alloc (Nat.le_refl _) _
    have HSZ : Hid (w1.heap.size < (w1.alloc (.cells #[.pointer none, .slice none 0 0] 50)).heap.size) := by show _ < _; simp
    clear hrp
    go_wp2_with fail
    generalize w1.alloc (.cells #[.pointer none, .slice none 0 0] 50) = w2 at *
    obtain ⟨B0, hB0⟩ : ∃ B, w1.heap.size = B := ⟨_, rfl⟩
    have HB0S : Hid (w.heap.size ≤ B0) := by show _ ≤ _; rw [← hB0]; exact HB1.out.size
    rw [hB0] at HBU0 HB2 HSZ ⊢
    have HW2 := Lib.hid (HB1.out.trans (HB2.out.mono HB0S.out))
    clear hB0
    go_loopw [12] (fun i wr => ∃ k : Nat, k ≤ n ∧ i = .int .i64 (k : Int) ∧ Lib.IsBuilder 50 5 B0 B0 (Lib.byteCells (textT (ps.take k))) wr ∧ Below B0 w2 wr ∧ B0 < wr.heap.size) (fun i _ => n - (intOf i).toNat)
    case atStart => exact ⟨0, by omega, rfl, HBU0.out, Below.refl _ _, HSZ.out⟩
    case round =>
      obtain ⟨k, hk, rfl, hbu, hb, hsz⟩ := hrel
      have HBUW := Lib.hid hbu
      have HBWR := Lib.hid hb
      have HSW := Lib.hid hsz
      have HWW := Lib.hid (HW2.out.trans (hb.mono HB0S.out))
      have WK := Lib.hid (next_int k (by have := HNB.out; omega))
      clear hbu hb hsz HBU0
      by_cases hkn : k = n
      · subst hkn
        have hki : ¬ (k : Int) < (k : Int) := by omega
        have hall : ps.take k = ps := List.take_of_length_le (by rw [HN.out]; omega)
        rw [hall] at HBUW
        clear hall
        go_wp2_with fail
        refine (Try.Builder_String_any B0 B0 (textT ps) wr HBUW.out (Nat.le_of_lt HSW.out)).mono ?_
        rintro e w3 ⟨rfl, hb⟩
        have HB3 := Lib.hid (HWW.out.trans (hb.mono HB0S.out))
        clear hb
        have hTL := HTLA.out k
        rw [List.take_of_length_le (by rw [HN.out]; omega)] at hTL
        obtain ⟨c1, hc1, hcv⟩ := conv_bytes w3 (txt (textT ps))
        have hbn := bytes_new w3 (txt (textT ps)) (by rw [txt_size]; have := HNB.out; omega)
        rw [txt_size] at hc1 hcv hbn
        have HBB : Hid (Below w.heap.size w (Lib.bytesWorld w3 5 (txt (textT ps)))) := HB3.out.trans (Joins.below_bytesWorld _ w3 5 (txt (textT ps)) HB3.out.size)
        have HP : Hid (MkPrint w.heap.size (.returned (.tuple #[.slice (some ⟨w3.heap.size, 0, none⟩) (textT ps).length c1, .int .i64 0])) (Lib.bytesWorld w3 5 (txt (textT ps))) ps) := by
          show MkPrint _ _ _ _
          unfold MkPrint
          rw [HRP.out, if_pos rfl]
          exact ⟨_, _, rfl, HB3.out.size, hc1, hbn⟩
        have htx : (⟨(textT ps).toArray⟩ : ByteArray) = txt (textT ps) := rfl
        rw [htx]
        clear hc1 hbn hTL htx
        generalize Lib.bytesWorld w3 5 (txt (textT ps)) = w4 at *
        generalize txt (textT ps) = tx at *
        generalize (textT ps).length = tl at *
        go_wp2_with fail
        go_ret2
        exact ⟨HP.out, HBB.out⟩
      · have hkl : k < n := by omega
        have hki : (k : Int) < (n : Int) := by omega
        obtain ⟨b, off, p, rfl, hp, h40, hbl, hr⟩ := H.out.at (k := k) (by rw [HN.out]; exact hkl)
        have HR := Lib.hid (range_below hr HWW.out hbl)
        have H40 := Lib.hid h40
        have hgp : ∀ x ∈ p, 0 ≤ x ∧ x ≤ 255 := HALL.out p (List.mem_of_getElem? hp)
        have HHX1 := Lib.hid (fun W => hex_any (p.take 20) W (take20_len h40) (fun x hx => hgp x (List.mem_of_mem_take hx)))
        have HHX2 := Lib.hid (fun W => hex_any (p.drop 20) W (drop20_len h40) (fun x hx => hgp x (List.mem_of_mem_drop hx)))
        have hs1 := hexB_size (p.take 20) (take20_len h40)
        have hs2 := hexB_size (p.drop 20) (drop20_len h40)
        have hlp := line_parts p
        have htt := textT_snoc hp
        rw [← hlp] at htt
        obtain ⟨g1, eg1⟩ : ∃ b : ByteArray, (⟨(hexOf (p.take 20)).toArray⟩ : ByteArray) = b := ⟨_, rfl⟩
        obtain ⟨g2, eg2⟩ : ∃ b : ByteArray, (⟨(hexOf (p.drop 20)).toArray⟩ : ByteArray) = b := ⟨_, rfl⟩
        obtain ⟨b1, e1⟩ : ∃ b, g1 ++ (⟨#[32]⟩ : ByteArray) = b := ⟨_, rfl⟩
        obtain ⟨b2, e2⟩ : ∃ b, b1 ++ g2 = b := ⟨_, rfl⟩
        obtain ⟨b3, e3⟩ : ∃ b, b2 ++ (⟨#[10]⟩ : ByteArray) = b := ⟨_, rfl⟩
        rw [eg1] at hs1
        rw [eg2] at hs2
        rw [eg1, eg2, e1, e2, e3] at htt
        have z1 : b1.size = 41 := by rw [← e1, ByteArray.size_append, hs1]; rfl
        have z2 : b2.size = 81 := by rw [← e2, ByteArray.size_append, z1, hs2]
        have z3 : b3.size = 82 := by rw [← e3, ByteArray.size_append, z2]; rfl
        have ha1 := add_small g1 ⟨#[32]⟩ (by rw [hs1]; decide)
        have ha2 := add_small b1 g2 (by rw [z1, hs2]; decide)
        have ha3 := add_small b2 ⟨#[10]⟩ (by rw [z2]; decide)
        rw [e1] at ha1
        rw [e2] at ha2
        rw [e3] at ha3
        simp only [eg1] at HHX1
        simp only [eg2] at HHX2
        have HTX := Lib.hid htt
        have HB3 := Lib.hid z3
        have HTL : Hid ((textT (ps.take k)).length ≤ 100000000) := by show _ ≤ _; have := HTLA.out k; have := HNB.out; omega
        have HI := Lib.hid (pair_info p h40)
        have HS : Hid ((V8 noPair).size = (V8 p).size) := by show _ = _; rw [V8_size, V8_size, h40]; rfl
        have HZN : Hid ((wr.alloc (.cells (V8 noPair) 46)).heap[wr.heap.size]? = some (.cells (V8 noPair) 46 (0, 0))) := heap_alloc_new _ _
        have hb2 : Below wr.heap.size wr ((wr.alloc (.cells (V8 noPair) 46)).setRow wr.heap.size (V8 p)) := below_setRow ((Below.refl _ _).alloc (Nat.le_refl _) _) (Nat.le_refl _) _
        have HBW := Lib.hid (HBWR.out.trans (hb2.mono (Nat.le_of_lt HSW.out)))
        have HBX := Lib.hid (setRow_heap _ _ _ (V8 p) _ _ HZN.out)
        have HBL : Hid (wr.heap.size < ((wr.alloc (.cells (V8 noPair) 46)).setRow wr.heap.size (V8 p)).heap.size) := (Array.getElem?_eq_some_iff.1 HBX.out).1
        have HBU := Lib.hid (HBUW.out.belowB hb2)
        have HBN : Hid (B0 ≤ ((wr.alloc (.cells (V8 noPair) 46)).setRow wr.heap.size (V8 p)).heap.size) := Nat.le_trans (Nat.le_of_lt HSW.out) hb2.size
        have HNE : Hid (wr.heap.size ≠ B0) := Nat.ne_of_gt HSW.out
        have HKL := Lib.hid hkl
        clear hr hbl h40 hp hgp hb2 hkl hlp htt eg1 eg2 e1 e2 e3 z1 z2 z3 hs1 hs2
        go_wp2_with (first
          | refine wpList_load_v8 rfl 46 _ rfl b (off + k * 40) rfl p _ HR.out Try.underlying46 rfl (pair_infoL _ H40.out) ?_
          | refine wpList_store_row rfl 46 _ _ rfl wr.heap.size (V8 p) rfl rfl 46 (V8 noPair) HZN.out HI.out HS.out (V8_one _) ?_)
        clear HZN HR HBUW HBWR HWW
        generalize (wr.alloc (.cells (V8 noPair) 46)).setRow wr.heap.size (V8 p) = wb at *
        generalize wr.heap.size = bx at *
        clear HSW
        refine wp_region_noPanic ?_
        refine wp_region_held_drew (S := fun W => W.heap[bx]? = some (.cells (V8 p) 46 (0, 0))) (by kernel_rfl) ?_ (fun hHeld => ?_)
        · exact HBX.out
        refine wpAnyH_take (i := 0) (v := ?_) (by simp only [List.getElem?_toArray, List.getElem?_cons_zero]; rfl) (by kernel_rfl) (by kernel_rfl) (by kernel_rfl) (fun _ _ _ h => h) (Or.inl ⟨by rfl, ?_⟩) (by assumption) ?_
        rotate_left
        · intro W hSW
          go_simp
          try with_reducible rfl
        try simp only [Act.put, List.setIfInBounds_toArray, List.set_cons_zero, List.set_cons_succ]
        refine wpAnyH_take (i := 1) (by simp only [List.getElem?_toArray, List.getElem?_cons_succ, List.getElem?_cons_zero]; rfl) (by kernel_rfl) (by kernel_rfl) (by kernel_rfl) (fun _ _ _ h => h) (yieldsIf_load_v8 (by rfl) 42 _ rfl bx 0 rfl (p.take 20) (.array 20 5) (fun W hSW => range_git (row_boxed hSW).2) Try.underlying42 rfl (id_infoL _ (take20_len H40.out))) (by assumption) ?_
        try simp only [Act.put, List.setIfInBounds_toArray, List.set_cons_zero, List.set_cons_succ]
        refine wpAnyH_take (i := 4) (v := ?_) (by simp only [List.getElem?_toArray, List.getElem?_cons_succ, List.getElem?_cons_zero]; rfl) (by kernel_rfl) (by kernel_rfl) (by kernel_rfl) (fun _ _ _ h => h) (Or.inl ⟨by rfl, ?_⟩) (by assumption) ?_
        rotate_left
        · intro W hSW
          go_simp
          try with_reducible rfl
        try simp only [Act.put, List.setIfInBounds_toArray, List.set_cons_zero, List.set_cons_succ]
        refine wpAnyH_take (i := 5) (by simp only [List.getElem?_toArray, List.getElem?_cons_succ, List.getElem?_cons_zero]; rfl) (by kernel_rfl) (by kernel_rfl) (by kernel_rfl) (fun _ _ _ h => h) (yieldsIf_load_v8 (by rfl) 42 _ rfl bx 20 rfl (p.drop 20) (.array 20 5) (fun W hSW => range_hg (row_boxed hSW).2) Try.underlying42 rfl (id_infoL _ (drop20_len H40.out))) (by assumption) ?_
        try simp only [Act.put, List.setIfInBounds_toArray, List.set_cons_zero, List.set_cons_succ]
        refine wpAnyH_ready (rs := [2]) (by kernel_rfl) (by simp) ?_
        refine AllReadyH.cons (by simp only [List.getElem?_toArray, List.getElem?_cons_succ, List.getElem?_cons_zero]; rfl) (fun K hK => ?_) AllReadyH.nil
        go_simp
        refine (HHX1.out _).mono ?_
        rintro e v1 ⟨rfl, hb⟩
        have hb1 : Below wb.heap.size wb v1 := (Below.refl _ _).drew.trans hb
        have HB1 := Lib.hid hb1
        have HBX1 := Lib.hid ((hb1.block bx HBL.out).trans HBX.out)
        clear hb hb1
        go_wp2_with fail
        refine hK.out _ _ (HBX1.out) (fun hHeld2 => ?_)
        clear hK K hHeld
        have hHeld := hHeld2
        clear hHeld2
        try simp only [Act.put, List.setIfInBounds_toArray, List.set_cons_zero, List.set_cons_succ]
        refine wpAnyH_take (i := 3) (v := ?_) (by simp only [List.getElem?_toArray, List.getElem?_cons_succ, List.getElem?_cons_zero]; rfl) (by kernel_rfl) (by kernel_rfl) (by kernel_rfl) (fun _ _ _ h => h) (Or.inl ⟨by rfl, ?_⟩) (by assumption) ?_
        rotate_left
        · intro W hSW
          go_simp
          try with_reducible rfl
        try simp only [Act.put, List.setIfInBounds_toArray, List.set_cons_zero, List.set_cons_succ]
        refine wpAnyH_ready (rs := [6]) (by kernel_rfl) (by simp) ?_
        refine AllReadyH.cons (by simp only [List.getElem?_toArray, List.getElem?_cons_succ, List.getElem?_cons_zero]; rfl) (fun K hK => ?_) AllReadyH.nil
        go_simp
        refine (HHX2.out _).mono ?_
        rintro e v2 ⟨rfl, hb⟩
        have HB2 := Lib.hid (HB1.out.trans (hb.mono HB1.out.size))
        have HBX2 := Lib.hid ((HB2.out.block bx HBL.out).trans HBX.out)
        have HBU2 := Lib.hid (HBU.out.belowB HB2.out)
        clear hb
        go_wp2_with fail
        refine hK.out _ _ (HBX2.out) (fun hHeld2 => ?_)
        clear hK K hHeld
        have hHeld := hHeld2
        clear hHeld2
        try simp only [Act.put, List.setIfInBounds_toArray, List.set_cons_zero, List.set_cons_succ]
        refine wpAnyH_take (i := 7) (v := ?_) (by simp only [List.getElem?_toArray, List.getElem?_cons_succ, List.getElem?_cons_zero]; rfl) (by kernel_rfl) (by kernel_rfl) (by kernel_rfl) (fun _ _ _ h => h) (Or.inl ⟨by rfl, ?_⟩) (by assumption) ?_
        rotate_left
        · intro W hSW
          go_simp
          try with_reducible rfl
        try simp only [Act.put, List.setIfInBounds_toArray, List.set_cons_zero, List.set_cons_succ]
        refine wpAnyH_take (i := 8) (v := ?_) (by simp only [List.getElem?_toArray, List.getElem?_cons_succ, List.getElem?_cons_zero]; rfl) (by kernel_rfl) (by kernel_rfl) (by kernel_rfl) (fun _ _ _ h => h) (Or.inl ⟨by rfl, ?_⟩) (by assumption) ?_
        rotate_left
        · intro W hSW
          go_simp
          try with_reducible rfl
        try simp only [Act.put, List.setIfInBounds_toArray, List.set_cons_zero, List.set_cons_succ]
        refine wpAnyH_ready (rs := [9]) (by kernel_rfl) (by simp) ?_
        refine AllReadyH.cons (by simp only [List.getElem?_toArray, List.getElem?_cons_succ, List.getElem?_cons_zero]; rfl) (fun K hK => ?_) AllReadyH.nil
        go_simp
        refine (writeString_any B0 B0 (textT (ps.take k)) b3 v2 HBU2.out (by have := HTL.out; have := HB3.out; omega) (Nat.le_trans HBN.out HB2.out.size)).mono ?_
        rintro e v3 ⟨rfl, ⟨hbu, hb⟩, hk⟩
        have HBU3 : Hid (Lib.IsBuilder 50 5 B0 B0 (Lib.byteCells (textT (ps.take (k + 1)))) v3) := by
            show Lib.IsBuilder _ _ _ _ _ _
            rw [HTX.out]; exact .inr hbu
        have HB3' := Lib.hid (HBW.out.trans ((HB2.out.mono HBN.out).trans hb))
        have HBX3 := Lib.hid (hk bx _ _ _ HNE.out (by decide) HBX2.out)
        clear hbu hb hk
        go_wp2_with fail
        refine hK.out _ _ (HBX3.out) (fun hHeld2 => ?_)
        clear hK K hHeld
        have hHeld := hHeld2
        clear hHeld2
        try simp only [Act.put, List.setIfInBounds_toArray, List.set_cons_zero, List.set_cons_succ]
        refine wpAnyH_done (by kernel_rfl) ?_ _
        refine NoPanic.normal ?_
        clear hHeld ha1 ha2 ha3
        go_wp2_with fail
        exact ⟨⟨k + 1, by have := HKL.out; omega, by rw [WK.out _ rfl], HBU3.out, HB3'.out, HBU3.out.elim (·.lt) (·.lt)⟩, by have := HKL.out; rw [WK.out _ rfl]; simp [intOf]; omega⟩
end Go.Proofs.Ytlhdjbnilfbaoaa
