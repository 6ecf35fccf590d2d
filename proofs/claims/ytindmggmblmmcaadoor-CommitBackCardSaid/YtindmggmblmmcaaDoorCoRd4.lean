/- The reader of a commit: extras: the walk. -/
import Derived.Test.YtindmggmblmmcaaDoorCoRd3
namespace Go.Proofs.YtindmggmblmmcaaDoor
open Go.RowKit Plain Go.ChangeShapes Go.WideShapes Go.ChangeAt Go.Great
set_option linter.unusedVariables false
set_option linter.unusedSimpArgs false
def lineX (l : List UInt8) : Option (ByteArray × ByteArray) := if (Lib.cut l [32]).2.2 = true then some (txt (Lib.cut l [32]).1, txt (Lib.replaceAll (Lib.cut l [32]).2.1 [10, 32] [10])) else none
def exG : Nat → List UInt8 → Option (List (ByteArray × ByteArray) × List UInt8)
  | 0, _ => none
  | f + 1, l => if l = [] ∨ l.head? = some 10 then some ([], l) else match endX l with
    | none => none
    | some n => match lineX (l.take n) with
      | none => none
      | some x => (exG f (l.drop (n + 1))).map fun (xs, r) => (x :: xs, r)
def exO (l : List UInt8) : Option (List (ByteArray × ByteArray) × List UInt8) := exG (l.length + 1) l
theorem FrR.grown {r : Nat} {w wr w' : World} {v : Value} (h : FrR r w wr) (hg : wr.grownBy w' v.ownBlock) (hv : ∀ g, v.ownBlock = some g → w.heap.size ≤ g) : FrR r w w' :=
  ⟨hg.os.trans h.os, hg.tape.trans h.tape, hg.output.trans h.output, Nat.le_trans h.size hg.size, fun k hk hn => (hg.block k (Nat.lt_of_lt_of_le hk h.size) (fun e => by have := hv k e.symm; omega)).trans (h.block k hk hn)⟩
theorem OwnG.frr {α : Type} {k : Nat} {enc : α → List Value} {e : TypeId} {w w' : World} {base r : Nat} {v : Value} {xs : List α} (h : OwnG k enc e w base v xs) (hf : FrR r w w') (hr : r < base) : OwnG k enc e w' base v xs := by
  obtain ⟨h1, h2 | ⟨g, cap, cur, h3, h4, h5, h6⟩⟩ := h
  · exact ⟨h1, .inl h2⟩
  · exact ⟨h1, .inr ⟨g, cap, cur, h3, h4, (hf.block g (Array.getElem?_eq_some_iff.1 h5).1 (by omega)).trans h5, h6⟩⟩
def rdSz (w : World) (r : Nat) : Nat := match w.cell? ⟨r, 0, none⟩ with
  | some (.string s) => s.size
  | _ => 0
theorem RdAt.sz {w : World} {r : Nat} {s : St} (h : RdAt w r s) : rdSz w r = s.1.length := by unfold rdSz; rw [h.left]; exact txt_size _
theorem build_ext (a b : ByteArray) (W : World) : (Instr.build 49 #[(0, .string a), (1, .string b)]).run Tryd.prog W = .ok (.agg (extE (a, b)).toArray) W := run_build W _ _ _ (by kernel_rfl)
/-- What extras answers. -/
def ExtsR (e : Ending) (w' : World) (base : Nat) (r : Nat) (s : St) : Prop :=
  (∃ xs l, exO s.1 = some (xs, l) ∧ ∃ v, e = .returned v ∧ OwnG 2 extE 49 w' base v xs ∧ RdAt w' r (l, s.2)) ∨ (exO s.1 = none ∧ e = .returned (.slice none 0 0) ∧ RdAt w' r ([], true))
theorem rd_len_x {l : List UInt8} {n : Nat} (h : endX l = some n) : (l.drop (n + 1)).length < l.length := by
  have := endX_lt h
  rw [List.length_drop]; omega
set_option maxRecDepth 100000 in
set_option maxHeartbeats 16000000 in
theorem extras_any (r : Nat) (s : St) (w : World) (h : RdAt w r s) (hl : s.1.length ≤ 30000) (hE : EnvR r w) :
    Calls Tryd.prog 21 #[.pointer (some ⟨r, 0, none⟩)] w fun e w' => ExtsR e w' w.heap.size r s ∧ FrR r w w' := by
  have HR := Lib.hid h
  have HE := Lib.hid hE
  have HLL := Lib.hid hl
  have HRB : Hid (r < w.heap.size) := h.lt
  obtain ⟨L, b⟩ := s
  clear h hl hE
  go_enter Tryd.func21, Tryd.ntmps21
  go_wp2_with fail
  go_loopw [3] (fun lv wr => ∃ (f : Nat) (done : List (ByteArray × ByteArray)) (l : List UInt8), l.length < f ∧ l.length ≤ L.length ∧ done.length + l.length ≤ L.length ∧ exO L = (exG f l).map (fun (xs, r) => (done ++ xs, r)) ∧ RdAt wr r (l, b) ∧ OwnG 2 extE 49 wr w.heap.size lv done ∧ FrR r w wr) (fun _ wr => rdSz wr r)
  case atStart => exact ⟨L.length + 1, [], L, by omega, by omega, by simp, by unfold exO; cases exG (L.length + 1) L <;> rfl, HR.out, OwnG.nil _ _ _, FrR.refl _ _⟩
  case round =>
    rename_i lv
    obtain ⟨f, done, l, hf, hlL, hdl, hex, hr, ho, hfr⟩ := hrel
    have HRW := Lib.hid hr
    have HOW := Lib.hid ho
    have HFW := Lib.hid hfr
    have HEX := Lib.hid hex
    have HFU := Lib.hid hf
    have HLL2 := Lib.hid hlL
    have HDL := Lib.hid hdl
    have HEW := Lib.hid (HE.out.frr hfr)
    have HSZ := Lib.hid hr.sz
    have hcl := hr.left
    dsimp only at hcl
    obtain ⟨ga, gc, hsh⟩ := ho.shape
    subst hsh
    clear hr ho hfr hex hf hlL hdl
    obtain ⟨f, rfl⟩ : ∃ g, f = g + 1 := ⟨f - 1, by have := HFU.out; omega⟩
    cases l with
    | nil =>
      have HOK : Hid (exO L = some (done, [])) := by show _ = _; rw [HEX.out]; simp [exG]
      have HNE : Hid (∀ W, (binOp .neq 9 (.string (txt [])) (.string ⟨#[]⟩)).run Tryd.prog W = .ok (.bool false) W) := fun W => ne_lit [] W
      go_wp2_with (first
        | refine wpList_eql (by rfl) .neq 9 _ _ _ rfl (.string (txt [])) (.string ⟨#[]⟩) rfl rfl (.bool false) (guard_ne _ _ _ _) HNE.out ?_)
      clear hcl
      go_wp2_with fail
      go_ret
      exact ⟨.inl ⟨done, [], HOK.out, _, rfl, HOW.out, HRW.out⟩, HFW.out⟩
    | cons c t =>
      have HNE : Hid (∀ W, (binOp .neq 9 (.string (txt (c :: t))) (.string ⟨#[]⟩)).run Tryd.prog W = .ok (.bool true) W) := fun W => ne_lit (c :: t) W
      have hfb := fun W => first_byte c t W
      by_cases hc : c = 10
      · subst hc
        have hfb : ∀ W, (Instr.index 9 (.string (txt (10 :: t))) (.int .i64 0)).run Tryd.prog W = .ok (.int .u8 10) W := hfb
        have HOK : Hid (exO L = some (done, 10 :: t)) := by show _ = _; rw [HEX.out]; simp [exG]
        go_wp2_with (first
          | refine wpList_eql (by rfl) .neq 9 _ _ _ rfl (.string (txt (10 :: t))) (.string ⟨#[]⟩) rfl rfl (.bool true) (guard_ne _ _ _ _) HNE.out ?_)
        clear hcl
        go_wp2_with fail
        go_ret
        exact ⟨.inl ⟨done, 10 :: t, HOK.out, _, rfl, HOW.out, HRW.out⟩, HFW.out⟩
      · have i1 : ¬ (c.toNat : Int) = 10 := fun h => hc (UInt8.toNat_inj.1 (by show c.toNat = 10; omega))
        have b1 : ((c.toNat : Int) != 10) = true := bne_iff_ne.2 i1
        have HEG : Hid (exG (f + 1) (c :: t) = match endX (c :: t) with
            | none => none
            | some n => match lineX ((c :: t).take n) with
              | none => none
              | some x => (exG f ((c :: t).drop (n + 1))).map fun (xs, r) => (x :: xs, r)) := by
          show _ = _
          conv => lhs; unfold exG
          rw [if_neg (by simp [hc])]
        have HEND := Lib.hid (endof_any (c :: t))
        clear hc
        generalize (c.toNat : Int) = ci at *
        go_wp2_with (first
          | refine wpList_eql (by rfl) .neq 9 _ _ _ rfl (.string (txt (c :: t))) (.string ⟨#[]⟩) rfl rfl (.bool true) (guard_ne _ _ _ _) HNE.out ?_)
        clear hfb i1 b1 HNE
        generalize c :: t = l at *
        refine (HEND.out wr (by have := HLL2.out; have := HLL.out; omega)).mono ?_
        rintro e w2 ⟨rfl, rfl⟩
        rename World => wr
        unfold endI
        cases hend : endX l with
        | none =>
          have HNO : Hid (exO L = none) := by show _ = _; rw [HEX.out, HEG.out, hend]; rfl
          clear hend
          dsimp only
          go_wp2_with fail
          refine (fail_any r (l, b) wr HRW.out).mono ?_
          rintro e w3 ⟨rfl, hr, hf⟩
          have HR3 := Lib.hid hr
          have HF3 := Lib.hid (HFW.out.trans hf)
          clear hr hf hcl
          go_wp2_with fail
          (try simp only [Exit.inBlock, Exit.then])
          go_ret
          exact ⟨.inr ⟨HNO.out, rfl, HR3.out⟩, HF3.out⟩
        | some n =>
          have HNL := Lib.hid (endX_lt hend)
          have HDR := Lib.hid (rd_len_x hend)
          rw [hend] at HEG
          clear hend
          dsimp only at HEG ⊢
          have hnlt : ¬ (n : Int) < 0 := by omega
          go_wp2_with fail
          clear hcl hnlt
          refine (take_any r n (l, b) wr HRW.out HNL.out (by have := HLL2.out; have := HLL.out; show l.length ≤ _; omega)).mono ?_
          rintro e w3 ⟨rfl, hr, hf⟩
          have HR3 := Lib.hid hr
          have HF3 := Lib.hid (HFW.out.trans hf)
          have HE3 := Lib.hid (HEW.out.frr hf)
          have HO3 := Lib.hid (HOW.out.frr hf HRB.out)
          clear hr hf HOW HRW HFW HEW
          dsimp only at HR3
          go_wp2_with fail
          have HTN : Hid ((l.take n).length ≤ 30000) := by show _ ≤ _; rw [List.length_take]; have := HLL2.out; have := HLL.out; omega
          refine (cutS_any (l.take n) [32] w3 HE3.out.env.env (by have := HTN.out; omega)).mono ?_
          rintro e w4 ⟨rfl, hb4⟩
          have HR4 := Lib.hid (HR3.out.below hb4)
          have HF4 := Lib.hid (HF3.out.trans (FrR.of (r := r) hb4))
          have HE4 := Lib.hid (HE3.out.below hb4)
          have HO4 := Lib.hid (HO3.out.below hb4)
          clear hb4 HR3 HF3 HE3 HO3
          have hcl2 := cutS_len (l.take n) [32]
          obtain ⟨KK, VV, b3, h3⟩ : ∃ N R' b, Lib.cut (l.take n) [32] = (N, R', b) := ⟨_, _, _, rfl⟩
          have HLX : Hid (lineX (l.take n) = if b3 = true then some (txt KK, txt (Lib.replaceAll VV [10, 32] [10])) else none) := by show _ = _; unfold lineX; rw [h3]
          rw [h3] at hcl2 ⊢
          dsimp only at hcl2 ⊢
          have HVL : Hid (VV.length ≤ 30000) := by have := HTN.out; show _ ≤ _; omega
          clear h3 hcl2
          cases b3
          · have HNO : Hid (exO L = none) := by show _ = _; rw [HEX.out, HEG.out, HLX.out]; rfl
            go_wp2_with fail
            refine (fail_any r _ w4 HR4.out).mono ?_
            rintro e w5 ⟨rfl, hr, hf⟩
            have HR5 := Lib.hid hr
            have HF5 := Lib.hid (HF4.out.trans hf)
            clear hr hf
            go_wp2_with fail
            (try simp only [Exit.inBlock, Exit.then])
            go_ret
            exact ⟨.inr ⟨HNO.out, rfl, HR5.out⟩, HF5.out⟩
          · have HGO : Hid (exO L = (exG f (l.drop (n + 1))).map (fun (xs, r) => ((done ++ [(txt KK, txt (Lib.replaceAll VV [10, 32] [10]))]) ++ xs, r))) := by
              show _ = _
              rw [HEX.out, HEG.out, HLX.out]
              cases exG f (l.drop (n + 1)) with
              | none => rfl
              | some p => simp
            obtain ⟨mx, hmx⟩ := HE4.out.env.env.most
            have HRA := Tryd.strings_ReplaceAll (txt VV) ⟨#[10, 32]⟩ ⟨#[10]⟩ mx w4 (by rw [txt_size]; have := HVL.out; omega) hmx (by decide) (by
              have := Lib.countB_le (⟨#[10, 32]⟩ : ByteArray) (by decide) _ (txt VV) (Nat.le_refl _)
              rw [txt_size] at this ⊢
              have := HVL.out
              show _ + _ * 1 ≤ _
              omega)
            rw [show (⟨(Lib.replaceAll (txt VV).data.toList (⟨#[10, 32]⟩ : ByteArray).data.toList (⟨#[10]⟩ : ByteArray).data.toList).toArray⟩ : ByteArray) = txt (Lib.replaceAll VV [10, 32] [10]) by rw [txt_list]; rfl] at HRA
            have HRA := Lib.hid HRA
            clear hmx
            go_wp2_with fail
            refine HRA.out.mono ?_
            rintro e w5 ⟨rfl, hb5⟩
            obtain ⟨V2, hV2⟩ : ∃ v, txt (Lib.replaceAll VV [10, 32] [10]) = v := ⟨_, rfl⟩
            obtain ⟨K2, hK2⟩ : ∃ v, txt KK = v := ⟨_, rfl⟩
            rw [hV2, hK2] at HGO
            simp only [hV2, hK2]
            have HR5 := Lib.hid (HR4.out.below hb5)
            have HF5 := Lib.hid (HF4.out.trans (FrR.of (r := r) hb5))
            have HO5 := Lib.hid (HO4.out.below hb5)
            clear hb5 HRA HR4 HF4 HO4 hV2 hK2
            have HBA : Hid (Below w5.heap.size w5 (w5.alloc (.cells (extE (K2, V2)).toArray 49))) := (Below.refl _ _).alloc (Nat.le_refl _) _
            have HOA := Lib.hid (HO5.out.below HBA.out)
            have HRA5 := Lib.hid (HR5.out.below HBA.out)
            have HFA5 := Lib.hid (HF5.out.trans (FrR.of (r := r) HBA.out))
            have HRW1 : Hid (∀ (j : Nat) y, [(K2, V2)][j]? = some y → (w5.alloc (.cells (extE (K2, V2)).toArray 49)).rangeAt w5.heap.size (0 + j * 2) (extE y)) := one_G w5 49 (K2, V2)
            have HDLB : Hid (done.length + 1 ≤ 100000) := by have := HDL.out; have := HLL.out; show _ ≤ _; omega
            have HWS : Hid (w.heap.size ≤ (w5.alloc (.cells (extE (K2, V2)).toArray 49)).heap.size) := HFA5.out.size
            have hsl1 := slice_G1 elem_ext (by decide) (by decide) (by decide) extE_len (K2, V2) (.agg (extE (K2, V2)).toArray) rfl w5
            go_wp2_with (first
              | refine wpList_buildQ rfl 49 _ rfl #[(0, .string K2), (1, .string V2)] (map_two _ _ _ _ _ rfl rfl) _ (build_ext K2 V2) ?_
              | refine wpList_slice rfl 33 1 #[(0, _)] rfl #[(0, .agg (extE (K2, V2)).toArray)] (map_one _ _ _ rfl) _ _ hsl1 ?_
              | (refine wpList_append_G elem_ext extE_len (by decide) (by decide) extE_one rfl _ _ rfl w.heap.size (.slice ga done.length gc) done done.length rfl rfl HOA.out w5.heap.size 0 1 1 [(K2, V2)] rfl (by decide) rfl HRW1.out (done.length + 1) (done ++ [(K2, V2)]) rfl rfl (by have := HDLB.out; omega) HWS.out ?_
                 rintro g2 gc2 w7 ho7 hg7 hgg hgl
                 have HO7 := Lib.hid ho7
                 have HF7 : Hid (FrR r w w7) := HFA5.out.grown hg7 (fun g hg => (HOA.out.lt hg).1)
                 have HR7 : Hid (RdAt w7 r (l.drop (n + 1), b)) := (hg7.block r HRA5.out.lt (fun e => by have := (HOA.out.lt e.symm).1; have := HRB.out; omega)).trans HRA5.out
                 clear ho7 hg7 hgg hgl))
            exact ⟨⟨f, done ++ [(K2, V2)], l.drop (n + 1), by have := HDR.out; have := HFU.out; omega, by have := HDR.out; have := HLL2.out; omega, by have := HDR.out; have := HDL.out; rw [List.length_append]; simp only [List.length_cons, List.length_nil]; omega, HGO.out, HR7.out, by first | exact HO7.out | (rw [List.length_append]; exact HO7.out), HF7.out⟩, by have h1 := HR7.out.sz; have h2 := HSZ.out; have h3 := HDR.out; (try simp only [h1, h2]); omega⟩
end Go.Proofs.YtindmggmblmmcaaDoor
