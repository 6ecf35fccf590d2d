/- The document's Parse of a change: the walk. -/
import Derived.Test.YthokcdjmhhlcdaaGreatDoorZPrint
import Derived.Test.YthokcdjmhhlcdaaGreatDoorZRight
import Derived.Test.YthokcdjmhhlcdaaGreatDoorRefParse
import Derived.Test.YthokcdjmhhlcdaaGreatDoorChRefMath
namespace Go.Proofs.YthokcdjmhhlcdaaGreatDoor
open Go.RowKit Plain
set_option linter.unusedVariables false
set_option linter.unusedSimpArgs false
theorem cut_lt {l : List UInt8} (c : UInt8) (h : l ≠ []) : (Lib.cut l [c]).2.1.length < l.length := by
  rcases cut_or c l with hn | ⟨A, B, rfl, hA⟩
  · rw [cut_not _ _ hn]
    exact List.length_pos_iff.2 h
  · rw [cut_at _ _ _ hA]
    simp; omega
theorem extsRk_len : ∀ (k : Nat) (l : List UInt8), (extsRk k l).length ≤ k ∧ ∀ x ∈ extsRk k l, x.1.size ≤ l.length ∧ x.2.size ≤ l.length
  | 0, l => ⟨Nat.le_refl _, fun x hx => absurd hx (by rw [extsRk]; simp)⟩
  | k + 1, l => by
    rw [extsRk]
    split
    · exact ⟨Nat.zero_le _, fun x hx => absurd hx (by simp)⟩
    · obtain ⟨i1, i2⟩ := extsRk_len k (Lib.cut l [0]).2.1
      have c1 := cut_len l 0
      refine ⟨by rw [List.length_cons]; omega, fun x hx => ?_⟩
      rcases List.mem_cons.1 hx with rfl | hx
      · unfold wordP
        have c2 := cut_len (Lib.cut l [0]).1 58
        have c3 := unval_len (Lib.cut (Lib.cut l [0]).1 [58]).2.1
        rw [txt_size, txt_size]
        omega
      · have := i2 x hx
        omega
theorem raw_wee {L : List UInt8} (h : L.length ≤ 2000) : ChWee (rawR numP L) := by
  have h1 := cut_len L 10
  have h2 := cut_len (rest1 L) 10
  have h3 := cut_len (rest2 L) 10
  have r1 : (rest1 L).length ≤ L.length := h1.2
  have r2 : (rest2 L).length ≤ (rest1 L).length := h2.2
  have r3 : (rest3 L).length ≤ (rest2 L).length := h3.2
  have rd : (dateP L).length ≤ (rest2 L).length := h3.1
  obtain ⟨f1, f2, f3⟩ := filesP_len (rest3 L).length (rest3 L)
  have e0 : (extraP (dateP L)).length ≤ (dateP L).length := by
    have c1 := cut_len (dateP L) 32
    have c2 := cut_len (Lib.cut (dateP L) [32]).2.1 32
    unfold extraP; omega
  obtain ⟨e1, e2⟩ := extsRk_len (extraP (dateP L)).length (extraP (dateP L))
  have nt := numP_le (timeP (dateP L))
  have nz := numP_le (zoneP (dateP L))
  refine ⟨?_, ?_, ?_, ?_, fun x hx => ?_, fun p hp => ?_, ?_, ?_⟩
  · show (txt _).size ≤ _; rw [txt_size]; omega
  · show (txt _).size ≤ _; rw [txt_size]; omega
  · show (extsRk _ _).length ≤ _; omega
  · show (filesP _ _).1.length ≤ _; omega
  · have := e2 x hx; omega
  · have := f2 p hp; omega
  · show -9223372036854775808 ≤ numP _ ∧ numP _ ≤ _; omega
  · show -9223372036854775808 ≤ numP _ ∧ numP _ ≤ _; omega
def strSz : Value → Nat
  | .string s => s.size
  | _ => 0
structure PsAt (w : World) (b2 cb : Nat) (c : CX) (xv fv : Value) (W : World) : Prop where
  row : W.heap[cb]? = some (.cells (chA c xv fv) 26 (0, 0))
  res : W.heap[b2]? = some (.cells (chA czero (.slice none 0 0) (.slice none 0 0)) 26 (0, 0))
  bel : Below w.heap.size w W
  ne : b2 ≠ cb
  l2 : w.heap.size ≤ b2
  lc : w.heap.size ≤ cb
  n20 : c.n.length = 20
theorem PsAt.below {w W W' : World} {b2 cb : Nat} {c : CX} {xv fv : Value} (h : PsAt w b2 cb c xv fv W) (hb : Below W.heap.size W W') : PsAt w b2 cb c xv fv W' :=
  ⟨(hb.block cb (Array.getElem?_eq_some_iff.1 h.row).1).trans h.row, (hb.block b2 (Array.getElem?_eq_some_iff.1 h.res).1).trans h.res, h.bel.trans (hb.mono h.bel.size), h.ne, h.l2, h.lc, h.n20⟩
theorem PsAt.set {w W : World} {b2 cb : Nat} {c : CX} {xv fv : Value} (h : PsAt w b2 cb c xv fv W) (i : Nat) (v : Value) (c' : CX) (xv' fv' : Value) (hl : ([.string c.u, .int .i64 c.t, .int .i64 c.z, xv, fv, .string c.d] : List Value).set i v = [.string c'.u, .int .i64 c'.t, .int .i64 c'.z, xv', fv', .string c'.d]) (hn : c'.n = c.n) : PsAt w b2 cb c' xv' fv' (W.setCell ⟨cb, 20 + i, none⟩ v) := by
  refine ⟨?_, (heap_setCell_ne W ⟨cb, 20 + i, none⟩ v b2 h.ne).trans h.res, h.bel.setCell h.lc v, h.ne, h.l2, h.lc, by rw [hn]; exact h.n20⟩
  rw [heap_setCell_same W cb (20 + i) _ _ _ h.row, chA_set c xv fv h.n20 i v _ hl]
  unfold chA chL
  rw [hn]
theorem PsAt.setId {w W : World} {b2 cb : Nat} {c : CX} {xv fv : Value} (h : PsAt w b2 cb c xv fv W) (n : List Int) (hn : n.length = 20) : PsAt w b2 cb { c with n := n } xv fv (W.setCells cb 0 (U8 n)) := by
  refine ⟨?_, (heap_setCells_ne cb b2 h.ne _ _ _).trans h.res, below_setCells cb h.lc _ _ _ h.bel, h.ne, h.l2, h.lc, hn⟩
  rw [heap_setCells cb _ _ _ _ _ h.row, chA_id c _ _ h.n20 n hn]
theorem PsAt.grown {w W W' : World} {b2 cb : Nat} {c : CX} {xv fv v : Value} (h : PsAt w b2 cb c xv fv W) (hg : W.grownBy W' v.ownBlock) (hv : ∀ g, v.ownBlock = some g → g ≠ cb ∧ g ≠ b2 ∧ w.heap.size ≤ g) : PsAt w b2 cb c xv fv W' :=
  ⟨(hg.block cb (Array.getElem?_eq_some_iff.1 h.row).1 (fun e => (hv cb e.symm).1 rfl)).trans h.row, (hg.block b2 (Array.getElem?_eq_some_iff.1 h.res).1 (fun e => (hv b2 e.symm).2.1 rfl)).trans h.res, h.bel.grown hg h.bel.size fun g hk => (hv g hk).2.2, h.ne, h.l2, h.lc, h.n20⟩
/-- What the document's Parse answers. -/
def RcParse (e : Ending) (w' : World) : Option CX → Prop
  | none => e = .returned (.tuple #[.agg (chV czero none 0 none 0), .bool false])
  | some c => ∃ xa xc fa fc, e = .returned (.tuple #[.agg (chV c xa xc fa fc), .bool true]) ∧ RowAt 2 extE w' xa c.xs ∧ RowAt 1 strE w' fa c.fs
theorem build_rch0 (W : World) : (Instr.build 26 #[]).run Tryz.prog W = .ok (.agg (chA czero (.slice none 0 0) (.slice none 0 0))) W := run_build W _ _ _ (by kernel_rfl)
theorem rparse24 (l : List UInt8) (w : World) (hs : l.length ≤ 1000000) :
    Calls Tryz.prog 29 #[.string (txt l)] w fun e w' => (∃ b, e = .returned (.tuple #[.agg (V8 (parsed (txt l))), .bool b])) ∧ Below w.heap.size w w' :=
  (refParse_any (txt l) w (by rw [txt_size]; omega)).mono fun e w' h => ⟨⟨_, h.1⟩, h.2⟩
theorem wpList_yield {P : Program} {w : World} {ops : Array Oper} {rest : List Oper} {o : Oper} {a : Act} {Q : Exit → Act → World → Prop} {v : Value} (hy : YieldsIf P ops (fun W => W = w) o v a) (hw : Region.wanted o (yielded ops a.tmps) = true) (h : wpList P ops Q rest (a.put o.dst v) w) : wpList P ops Q (o :: rest) a w := by
  refine wpList_step ?_
  intro K hK
  rw [if_pos hw]
  rcases hy with ⟨-, hr⟩ | ⟨hn, -⟩
  · unfold Oper.wp
    rw [hr w rfl]
    exact hK _ _ h
  · rw [hw] at hn; cases hn
theorem PsAt.same {w W : World} {b2 cb : Nat} {c : CX} {xv fv : Value} (h : PsAt w b2 cb c xv fv W) (c' : CX) (hl : ([.string c.u, .int .i64 c.t, .int .i64 c.z, xv, fv, .string c.d] : List Value) = [.string c'.u, .int .i64 c'.t, .int .i64 c'.z, xv, fv, .string c'.d]) (hn : c'.n = c.n) : PsAt w b2 cb c' xv fv W :=
  ⟨by rw [h.row]; unfold chA chL; rw [hn, hl], h.res, h.bel, h.ne, h.l2, h.lc, by rw [hn]; exact h.n20⟩
set_option maxRecDepth 100000 in
set_option maxHeartbeats 64000000 in
theorem rcparse_any (L : List UInt8) (w : World) (hL : L.length ≤ 2000) :
    Calls Tryz.prog 13 #[.string (txt L)] w fun e w' => RcParse e w' (parseC L) ∧ Below w.heap.size w w' := by
  have HLL : Hid (L.length ≤ 2000) := hL
  have HWE := Lib.hid (raw_wee hL)
  have HPS := Lib.hid (parse_same numP numP_itoa L)
  have HBY : Hid (∀ x ∈ (rawR numP L).n, 0 ≤ x ∧ x ≤ 255) := (raw_good L).2
  have HCU : Hid ((rawR numP L).u = txt (Lib.cut (Lib.cut L [10]).2.1 [10]).1) := rfl
  have HCI : Hid ((rawR numP L).n = parsed (txt (Lib.cut L [10]).1)) := rfl
  have HCT : Hid ((rawR numP L).t = numP (Lib.cut (Lib.cut (Lib.cut (Lib.cut L [10]).2.1 [10]).2.1 [10]).1 [32]).1) := rfl
  have HCZ : Hid ((rawR numP L).z = numP (Lib.cut (Lib.cut (Lib.cut (Lib.cut (Lib.cut L [10]).2.1 [10]).2.1 [10]).1 [32]).2.1 [32]).1) := rfl
  have HCX : Hid ((rawR numP L).xs = extsRk (Lib.cut (Lib.cut (Lib.cut (Lib.cut (Lib.cut L [10]).2.1 [10]).2.1 [10]).1 [32]).2.1 [32]).2.1.length (Lib.cut (Lib.cut (Lib.cut (Lib.cut (Lib.cut L [10]).2.1 [10]).2.1 [10]).1 [32]).2.1 [32]).2.1) := rfl
  have HCF : Hid ((rawR numP L).fs = (filesP (Lib.cut (Lib.cut (Lib.cut L [10]).2.1 [10]).2.1 [10]).2.1.length (Lib.cut (Lib.cut (Lib.cut L [10]).2.1 [10]).2.1 [10]).2.1).1) := rfl
  have HCD : Hid ((rawR numP L).d = txt (filesP (Lib.cut (Lib.cut (Lib.cut L [10]).2.1 [10]).2.1 [10]).2.1.length (Lib.cut (Lib.cut (Lib.cut L [10]).2.1 [10]).2.1 [10]).2.1).2) := rfl
  obtain ⟨C, hC⟩ : ∃ C, rawR numP L = C := ⟨_, rfl⟩
  rw [hC] at HWE HPS HBY HCU HCI HCT HCZ HCX HCF HCD
  have hzr := zero_rch
  have HI0A : Hid ((Tryz.prog.info? 26).map (·.size) = some (chA czero (.slice none 0 0) (.slice none 0 0)).size) := info_rchA czero _ _ czero_20
  have HZ1 := Lib.hid (chA_one czero (.slice none 0 0) (.slice none 0 0) rfl rfl)
  have hp0 : PsAt w w.heap.size (w.heap.size + 1) czero (.slice none 0 0) (.slice none 0 0) ((w.alloc (.cells (chA czero (.slice none 0 0) (.slice none 0 0)) 26)).alloc (.cells (chA czero (.slice none 0 0) (.slice none 0 0)) 26)) := by
    refine ⟨?_, (Below.heap_alloc _ _ _ (by simp)).trans (heap_alloc_new _ _), ((Below.refl _ _).alloc (Nat.le_refl _) _).alloc (by simp) _, by omega, Nat.le_refl _, by omega, czero_20⟩
    have h1 := heap_alloc_new (w.alloc (.cells (chA czero (.slice none 0 0) (.slice none 0 0)) 26)) (.cells (chA czero (.slice none 0 0) (.slice none 0 0)) 26)
    rw [show (w.alloc (.cells (chA czero (.slice none 0 0) (.slice none 0 0)) 26)).heap.size = w.heap.size + 1 by simp] at h1
    exact h1
  clear hL hC
  go_enter Tryz.func13, Tryz.ntmps13
  go_wp2_with fail
  clear hzr
  obtain ⟨w0, hw0⟩ : ∃ W, (w.alloc (.cells (chA czero (.slice none 0 0) (.slice none 0 0)) 26)).alloc (.cells (chA czero (.slice none 0 0) (.slice none 0 0)) 26) = W := ⟨_, rfl⟩
  rw [hw0] at hp0 ⊢
  clear hw0
  obtain ⟨b2, hb2⟩ : ∃ b, w.heap.size = b := ⟨_, rfl⟩
  have HP0 : Hid (PsAt w b2 (b2 + 1) czero (.slice none 0 0) (.slice none 0 0) w0) := by rw [← hb2]; exact hp0
  simp only [hb2]
  clear hp0 hb2
  obtain ⟨cb, hcb⟩ : ∃ b, b2 + 1 = b := ⟨_, rfl⟩
  rw [hcb] at HP0
  simp only [hcb]
  clear hcb
  refine (until_any L 10 w0 (by have := HLL.out; omega)).mono ?_
  rintro e wa ⟨rfl, hb⟩
  have HPa := Lib.hid (HP0.out.below hb)
  clear hb
  obtain ⟨hexT, hhexT⟩ : ∃ x, (Lib.cut L [10]).1 = x := ⟨_, rfl⟩
  obtain ⟨R1, hR1⟩ : ∃ x, (Lib.cut L [10]).2.1 = x := ⟨_, rfl⟩
  have HhexT := Lib.hid hhexT
  have HR1 := Lib.hid hR1
  have HLhexT : Hid (hexT.length ≤ 2000) := by show _ ≤ _; rw [← hhexT]; have := (cut_len L 10).1; have := HLL.out; omega
  have HLR1 : Hid (R1.length ≤ 2000) := by show _ ≤ _; rw [← hR1]; have := (cut_len L 10).2; have := HLL.out; omega
  rw [hhexT, hR1]
  clear hhexT hR1
  rw [HhexT.out] at HCI
  rw [HR1.out] at HCU HCT HCZ HCX HCF HCD
  go_wp2_with fail
  refine (rparse24 hexT wa (by have := HLhexT.out; omega)).mono ?_
  rintro e wb ⟨⟨ib, rfl⟩, hb⟩
  have HPb := Lib.hid (HPa.out.below hb)
  clear hb
  obtain ⟨pid, hpid⟩ : ∃ p, parsed (txt hexT) = p := ⟨_, rfl⟩
  have HP20 : Hid (pid.length = 20) := by rw [← hpid]; exact parsed_length _
  rw [hpid] at HCI ⊢
  clear hpid
  have HTH : Hid (wb.there cb 0 (V8 pid).size) := fun j hj => by
    rw [V8_size, HP20.out] at hj
    rw [Nat.zero_add]
    refine ⟨?_, frozen_of_row wb cb j _ _ HPb.out.row⟩
    rw [cell_of_row _ _ _ _ _ _ HPb.out.row, Array.getElem?_eq_getElem (by rw [chA_size _ _ _ czero_20]; omega)]
    rfl
  have HIF := Lib.hid (info24 pid HP20.out)
  have HW5 : Hid (wb.setCells cb 0 (V8 pid).toList = wb.setCells cb 0 (U8 pid)) := by show _ = _; rw [V8_list]
  have HPc := Lib.hid (HPb.out.setId pid HP20.out)
  go_wp2_with (first
    | refine wpList_store_mid rfl 22 _ _ rfl cb 0 (V8 pid) rfl rfl HTH.out HIF.out (V8_one _) ?_)
  rw [HW5.out]
  clear HW5 HTH HIF
  generalize wb.setCells cb 0 (U8 pid) = wc at *
  refine (until_any R1 10 wc (by have := HLR1.out; omega)).mono ?_
  rintro e wd ⟨rfl, hb⟩
  have HPd := Lib.hid (HPc.out.below hb)
  clear hb
  obtain ⟨U, hU⟩ : ∃ x, (Lib.cut R1 [10]).1 = x := ⟨_, rfl⟩
  obtain ⟨R2, hR2⟩ : ∃ x, (Lib.cut R1 [10]).2.1 = x := ⟨_, rfl⟩
  have HU := Lib.hid hU
  have HR2 := Lib.hid hR2
  have HLU : Hid (U.length ≤ 2000) := by show _ ≤ _; rw [← hU]; have := (cut_len R1 10).1; have := HLR1.out; omega
  have HLR2 : Hid (R2.length ≤ 2000) := by show _ ≤ _; rw [← hR2]; have := (cut_len R1 10).2; have := HLR1.out; omega
  rw [hU, hR2]
  clear hU hR2
  rw [HU.out] at HCU
  rw [HR2.out] at HCT HCZ HCX HCF HCD
  have hco := (ChRow.of HPd.out.row HPd.out.n20).user
  have hfo := frozen_of_row wd cb 20 _ _ HPd.out.row
  have HPe := Lib.hid (HPd.out.set 0 (.string (txt U)) { czero with n := pid, u := txt U } _ _ rfl rfl)
  go_wp2_with fail
  clear hco hfo
  generalize wd.setCell ⟨cb, 20 + 0, none⟩ (.string (txt U)) = we at *
  refine (until_any R2 10 we (by have := HLR2.out; omega)).mono ?_
  rintro e wf ⟨rfl, hb⟩
  have HPf := Lib.hid (HPe.out.below hb)
  clear hb
  obtain ⟨D, hD⟩ : ∃ x, (Lib.cut R2 [10]).1 = x := ⟨_, rfl⟩
  obtain ⟨R3, hR3⟩ : ∃ x, (Lib.cut R2 [10]).2.1 = x := ⟨_, rfl⟩
  have HD := Lib.hid hD
  have HR3 := Lib.hid hR3
  have HLD : Hid (D.length ≤ 2000) := by show _ ≤ _; rw [← hD]; have := (cut_len R2 10).1; have := HLR2.out; omega
  have HLR3 : Hid (R3.length ≤ 2000) := by show _ ≤ _; rw [← hR3]; have := (cut_len R2 10).2; have := HLR2.out; omega
  rw [hD, hR3]
  clear hD hR3
  rw [HD.out] at HCT HCZ HCX
  rw [HR3.out] at HCF HCD
  go_wp2_with fail
  refine (until_any D 32 wf (by have := HLD.out; omega)).mono ?_
  rintro e wg ⟨rfl, hb⟩
  have HPg := Lib.hid (HPf.out.below hb)
  clear hb
  obtain ⟨T, hT⟩ : ∃ x, (Lib.cut D [32]).1 = x := ⟨_, rfl⟩
  obtain ⟨D2, hD2⟩ : ∃ x, (Lib.cut D [32]).2.1 = x := ⟨_, rfl⟩
  have HT := Lib.hid hT
  have HD2 := Lib.hid hD2
  have HLT : Hid (T.length ≤ 2000) := by show _ ≤ _; rw [← hT]; have := (cut_len D 32).1; have := HLD.out; omega
  have HLD2 : Hid (D2.length ≤ 2000) := by show _ ≤ _; rw [← hD2]; have := (cut_len D 32).2; have := HLD.out; omega
  rw [hT, hD2]
  clear hT hD2
  rw [HT.out] at HCT
  rw [HD2.out] at HCZ HCX
  go_wp2_with fail
  refine (until_any D2 32 wg (by have := HLD2.out; omega)).mono ?_
  rintro e wh ⟨rfl, hb⟩
  have HPh := Lib.hid (HPg.out.below hb)
  clear hb
  obtain ⟨Zt, hZt⟩ : ∃ x, (Lib.cut D2 [32]).1 = x := ⟨_, rfl⟩
  obtain ⟨E, hE⟩ : ∃ x, (Lib.cut D2 [32]).2.1 = x := ⟨_, rfl⟩
  have HZt := Lib.hid hZt
  have HE := Lib.hid hE
  have HLZt : Hid (Zt.length ≤ 2000) := by show _ ≤ _; rw [← hZt]; have := (cut_len D2 32).1; have := HLD2.out; omega
  have HLE : Hid (E.length ≤ 2000) := by show _ ≤ _; rw [← hE]; have := (cut_len D2 32).2; have := HLD2.out; omega
  rw [hZt, hE]
  clear hZt hE
  rw [HZt.out] at HCZ
  rw [HE.out] at HCX
  go_wp2_with fail
  refine (rnumber_any T wh (by have := HLT.out; omega)).mono ?_
  rintro e wi ⟨rfl, hb⟩
  have HPi := Lib.hid (HPh.out.below hb)
  clear hb
  go_wp2_with fail
  refine (rnumber_any Zt wi (by have := HLZt.out; omega)).mono ?_
  rintro e wj ⟨rfl, hb⟩
  have HPj := Lib.hid (HPi.out.below hb)
  clear hb
  rw [← HCT.out, ← HCZ.out]
  have hc1 := (ChRow.of HPj.out.row HPj.out.n20).time
  have hc2 := (ChRow.of HPj.out.row HPj.out.n20).zone
  have hf1 := frozen_of_row wj cb 21 _ _ HPj.out.row
  have hf2 := frozen_of_row wj cb 22 _ _ HPj.out.row
  obtain ⟨C4, hC4⟩ : ∃ c : CX, c = { C with d := ⟨#[]⟩ } := ⟨_, rfl⟩
  have HC4 := Lib.hid hC4
  have HP1 : Hid (PsAt w b2 cb C4 (.slice none 0 0) (.slice none 0 0) ((wj.setCell ⟨cb, 20 + 1, none⟩ (.int .i64 C.t)).setCell ⟨cb, 20 + 2, none⟩ (.int .i64 C.z))) :=
    (HPj.out.set 1 (.int .i64 C.t) { czero with n := pid, u := txt U, t := C.t } _ _ rfl rfl).set 2 (.int .i64 C.z) C4 _ _ (by rw [hC4]; show _ = [Value.string C.u, _, _, _, _, _]; rw [HCU.out]; rfl) (by rw [hC4]; exact HCI.out)
  clear hC4
  go_wp2_with fail
  clear hc1 hc2 hf1 hf2
  obtain ⟨w1, hw1⟩ : ∃ W, (wj.setCell ⟨cb, 20 + 1, none⟩ (.int .i64 C.t)).setCell ⟨cb, 20 + 2, none⟩ (.int .i64 C.z) = W := ⟨_, rfl⟩
  rw [hw1] at HP1
  simp only [Nat.reduceAdd] at hw1
  rw [hw1]
  clear hw1
  have HCL : Hid (cb < w1.heap.size) := (Array.getElem?_eq_some_iff.1 HP1.out.row).1
  have HBL : Hid (b2 < w1.heap.size) := (Array.getElem?_eq_some_iff.1 HP1.out.res).1
  have HW1 : Hid (w.heap.size ≤ w1.heap.size) := HP1.out.bel.size
  clear HPa HPb HPc HPd HPe HPf HPg HPh HPi HPj HP0
  go_loopw [10] (fun e wr => ∃ (rest : List UInt8) (k : Nat) (done : List (ByteArray × ByteArray)) (xa : Option Addr) (xc m : Nat), e = .string (txt rest) ∧ done.length = m ∧ rest.length ≤ k ∧ m + rest.length ≤ E.length ∧ extsRk E.length E = done ++ extsRk k rest ∧ OwnG 2 extE 47 wr w1.heap.size (.slice xa m xc) done ∧ PsAt w b2 cb C4 (.slice xa m xc) (.slice none 0 0) wr ∧ FrR cb w1 wr) (fun e _ => strSz e)
  case atStart => exact ⟨E, E.length, [], none, 0, 0, rfl, rfl, Nat.le_refl _, by simp, rfl, OwnG.nil _ _ _, HP1.out, FrR.refl _ _⟩
  case round =>
    rename World => wr
    obtain ⟨rest, k, done, xa, xc, m, rfl, hm, hrk, hmb, hex, ho, hp, hf⟩ := hrel
    have HM := Lib.hid hm
    have HRK := Lib.hid hrk
    have HMB := Lib.hid hmb
    have HEX := Lib.hid hex
    have HO := Lib.hid ho
    have HP := Lib.hid hp
    have HF := Lib.hid hf
    have HNE := Lib.hid (fun W => neq_empty rest W)
    clear hm hrk hmb hex ho hp hf
    by_cases hr0 : rest = []
    · have HNF : Hid (∀ W, (binOp .neq 9 (.string (txt rest)) (.string ⟨#[]⟩)).run Tryz.prog W = .ok (.bool false) W) := fun W => by rw [HNE.out, hr0]; rfl
      have HDN : Hid (done = extsRk E.length E) := by
        show _ = _
        rw [HEX.out, hr0]
        cases k with
        | zero => rw [extsRk, List.append_nil]
        | succ k => rw [extsRk, if_pos rfl, List.append_nil]
      clear hr0 HNE
      go_wp2_with (first
        | refine wpList_eql (by rfl) .neq 9 _ _ _ rfl (.string (txt rest)) (.string ⟨#[]⟩) rfl rfl (.bool false) (guard_ne _ _ _ _) HNF.out ?_)
      have HZ := HO
      have HCLZ : Hid (cb < wr.heap.size) := by have := HF.out.size; have := HCL.out; show _ < _; omega
      have HWZ : Hid (w1.heap.size ≤ wr.heap.size) := HF.out.size
      have HWZW : Hid (w.heap.size ≤ wr.heap.size) := HP.out.bel.size
      have HPZ := HP
      clear HMB HRK HEX HF
      clear HZ
      rename World => wz
      simp only [Act.put, List.setIfInBounds_toArray, List.set_cons_zero, List.set_cons_succ]
      go_loopw [6] (fun e wr => ∃ (rest : List UInt8) (k : Nat) (fdone : List ByteArray) (fa : Option Addr) (fc fm : Nat), e = .string (txt rest) ∧ fdone.length = fm ∧ rest.length ≤ k ∧ fm + rest.length ≤ R3.length ∧ filesP R3.length R3 = (fdone ++ (filesP k rest).1, (filesP k rest).2) ∧ OwnG 1 strE 9 wr wz.heap.size (.slice fa fm fc) fdone ∧ PsAt w b2 cb C4 (.slice xa m xc) (.slice fa fm fc) wr ∧ FrR cb wz wr) (fun e _ => strSz e)
      case atStart => exact ⟨R3, R3.length, [], none, 0, 0, rfl, rfl, Nat.le_refl _, by simp, by simp, OwnG.nil _ _ _, HPZ.out, FrR.refl _ _⟩
      case round =>
        rename World => wr
        obtain ⟨rest, k, fdone, fa, fc, fm, rfl, hm, hrk, hmb, hex, ho, hp, hf⟩ := hrel
        have HFM := Lib.hid hm
        have HRK := Lib.hid hrk
        have HMB := Lib.hid hmb
        have HEX := Lib.hid hex
        have HFO := Lib.hid ho
        have HP := Lib.hid hp
        have HF := Lib.hid hf
        have HNE := Lib.hid (fun W => neq_empty rest W)
        clear hm hrk hmb hex ho hp hf HPZ
        cases rest with
        | nil =>
          have HNF0 : Hid (∀ W, (binOp .neq 9 (.string (txt [])) (.string ⟨#[]⟩)).run Tryz.prog W = .ok (.bool false) W) := fun W => by rw [HNE.out]; rfl
          have HEND : Hid (filesP k [] = ([], [])) := filesP_end k rfl
          have HFD : Hid (fdone = (filesP R3.length R3).1) := by show _ = _; rw [HEX.out, HEND.out, List.append_nil]
          have HPT : Hid (PsAt w b2 cb C (.slice xa m xc) (.slice fa fm fc) wr) := HP.out.same C (by show _ = _; rw [HCD.out, HEX.out, HEND.out, HC4.out]; rfl) (by rw [HC4.out])
          have HRF : Hid (RowAt 1 strE wr fa C.fs) := by
            have h1 := (HFO.out.fs strE_len).1
            rw [HFD.out, ← HCF.out] at h1
            exact h1
          have HRX : Hid (RowAt 2 extE wr xa C.xs) := by
            have h1 := ((HO.out.move (w' := wr) fun g hg hl => HF.out.block g hl (by have := HCL.out; omega)).fs extE_len).1
            rw [HDN.out, ← HCX.out] at h1
            exact h1
          have HXN : Hid (C.xs.length = m) := by show _ = _; rw [HCX.out, ← HDN.out]; exact HM.out
          have HFN : Hid (C.fs.length = fm) := by show _ = _; rw [HCF.out, ← HFD.out]; exact HFM.out
          have HNX : Hid (∀ b' off, xa = some ⟨b', off, none⟩ → C.xs.length ≠ 0 → b' ≠ b2) := fun b' off he _ => by have := HO.out.base he; have := HBL.out; omega
          have HNF : Hid (∀ b' off, fa = some ⟨b', off, none⟩ → C.fs.length ≠ 0 → b' ≠ b2) := fun b' off he _ => by have := HFO.out.base he; have := HBL.out; have := HWZ.out; omega
          clear HNE HEND HP HRK HMB
          have HCV : Hid ((chL C (.slice xa m xc) (.slice fa fm fc)).toArray = chV C xa xc fa fc) := by show _ = _; unfold chV; rw [HXN.out, HFN.out]; rfl
          have hbz := build_rch0
          go_wp2_with (first
            | refine wpList_eql (by rfl) .neq 9 _ _ _ rfl (.string (txt [])) (.string ⟨#[]⟩) rfl rfl (.bool false) (guard_ne _ _ _ _) HNF0.out ?_
            | (refine wpList_load_mid rfl 26 _ rfl cb 0 rfl (chL C (.slice xa m xc) (.slice fa fm fc)) _ (ChRow.of HPT.out.row HPT.out.n20).cells Tryz.underlying26 rfl (info_rch C _ _ HPT.out.n20) ?_; rw [HCV.out]))
          refine (rchright_any C xa xc fa fc wr HPT.out.n20 HRX.out HRF.out (by have := HWE.out.2.2.1; omega) (by have := HWE.out.2.2.2.1; omega) (by have := HWE.out.1; omega)).mono ?_
          rintro e wy ⟨rfl, hb⟩
          have HPY := Lib.hid (HPT.out.below hb)
          have HRXY := Lib.hid (HRX.out.below hb)
          have HRFY := Lib.hid (HRF.out.below hb)
          clear hb
          cases hrt : rightC C
          · have HPC : Hid (parseC L = none) := by
              show _ = _
              rw [← HPS.out, if_neg]
              rintro ⟨h, -⟩
              rw [hrt] at h; cases h
            clear hrt
            go_wp2_with (first
              | refine wpList_store_row rfl 26 _ _ rfl b2 (chA czero (.slice none 0 0) (.slice none 0 0)) rfl rfl 26 (chA czero (.slice none 0 0) (.slice none 0 0)) HPY.out.res HI0A.out rfl HZ1.out ?_)
            refine bodyPost_ret (results_row_tmp Tryz.results13 _ _ b2 26 (chA czero (.slice none 0 0) (.slice none 0 0)) (0, 0) _ rfl (setRow_heap _ _ _ _ _ _ HPY.out.res) Tryz.underlying26 rfl HI0A.out) rfl ⟨?_, ?_⟩
            · rw [HPC.out]; exact rfl
            · exact below_setRow HPY.out.bel HPY.out.l2 _
          · have HRT := Lib.hid hrt
            clear hrt
            go_wp2_with (first
              | (refine wpList_yield (yieldsIf_load_mid (by rfl) 26 _ rfl cb 0 rfl (chL C (.slice xa m xc) (.slice fa fm fc)) _ (fun W hW => by subst hW; exact (ChRow.of HPY.out.row HPY.out.n20).cells) Tryz.underlying26 rfl (info_rch C _ _ HPY.out.n20)) (by rfl) ?_; rw [HCV.out]))
            refine (rchprint_any C xa xc fa fc wy HPY.out.n20 HBY.out HRXY.out HRFY.out HWE.out).mono ?_
            rintro e wq ⟨rfl, hb⟩
            have HPQ := Lib.hid (HPY.out.below hb)
            have HRXQ := Lib.hid (HRXY.out.below hb)
            have HRFQ := Lib.hid (HRFY.out.below hb)
            clear hb
            cases heq : (txt (printL C)).toList == (txt L).toList
            · have HNE := Lib.hid (ne_str _ _ _ heq)
              have HPC : Hid (parseC L = none) := by
                show _ = _
                rw [← HPS.out, if_neg]
                rintro ⟨-, h⟩
                rw [h] at heq
                simp at heq
              clear heq
              go_wp2_with (first
                | refine wpList_eql (by rfl) .neq 9 _ _ _ rfl (.string (txt (printL C))) (.string (txt L)) rfl rfl (.bool true) (guard_ne _ _ _ _) (fun W => HNE.out W) ?_
                | refine wpList_store_row rfl 26 _ _ rfl b2 (chA czero (.slice none 0 0) (.slice none 0 0)) rfl rfl 26 (chA czero (.slice none 0 0) (.slice none 0 0)) HPQ.out.res HI0A.out rfl HZ1.out ?_)
              refine bodyPost_ret (results_row_tmp Tryz.results13 _ _ b2 26 (chA czero (.slice none 0 0) (.slice none 0 0)) (0, 0) _ rfl (setRow_heap _ _ _ _ _ _ HPQ.out.res) Tryz.underlying26 rfl HI0A.out) rfl ⟨?_, ?_⟩
              · rw [HPC.out]; exact rfl
              · exact below_setRow HPQ.out.bel HPQ.out.l2 _
            · have HNE := Lib.hid (ne_str _ _ _ heq)
              have HPC : Hid (parseC L = some C) := by
                show _ = _
                have e : printL C = L := by
                  have h1 := toList_inj' _ _ (eq_of_beq heq)
                  rw [← txt_list (printL C), h1, txt_list]
                rw [← HPS.out, if_pos ⟨HRT.out, e⟩]
              have HICA : Hid ((Tryz.prog.info? 26).map (·.size) = some (chV C xa xc fa fc).size) := info_rchA C _ _ HPQ.out.n20
              have HSO : Hid ((chA czero (.slice none 0 0) (.slice none 0 0)).size = (chV C xa xc fa fc).size) := by show _ = _; unfold chV; rw [chA_size _ _ _ czero_20, chA_size _ _ _ HPQ.out.n20]
              have HONE : Hid ((chV C xa xc fa fc).all (·.oneCell') = true) := chA_one C _ _ rfl rfl
              clear heq hbz
              go_wp2_with (first
                | refine wpList_eql (by rfl) .neq 9 _ _ _ rfl (.string (txt (printL C))) (.string (txt L)) rfl rfl (.bool false) (guard_ne _ _ _ _) (fun W => HNE.out W) ?_
                | (refine wpList_load_mid rfl 26 _ rfl cb 0 rfl (chL C (.slice xa m xc) (.slice fa fm fc)) _ (ChRow.of HPQ.out.row HPQ.out.n20).cells Tryz.underlying26 rfl (info_rch C _ _ HPQ.out.n20) ?_; rw [HCV.out])
                | refine wpList_store_row rfl 26 _ _ rfl b2 (chV C xa xc fa fc) rfl rfl 26 (chA czero (.slice none 0 0) (.slice none 0 0)) HPQ.out.res HICA.out HSO.out HONE.out ?_)
              refine bodyPost_ret (results_row_tmp Tryz.results13 _ _ b2 26 (chV C xa xc fa fc) (0, 0) _ rfl (setRow_heap _ _ _ _ _ _ HPQ.out.res) Tryz.underlying26 rfl HICA.out) rfl ⟨?_, ?_⟩
              · rw [HPC.out]
                exact ⟨xa, xc, fa, fc, rfl, rowat_setRow HRXQ.out HNX.out, rowat_setRow HRFQ.out HNF.out⟩
              · exact below_setRow HPQ.out.bel HPQ.out.l2 _
        | cons q rs =>
          have HNT : Hid (∀ W, (binOp .neq 9 (.string (txt (q :: rs))) (.string ⟨#[]⟩)).run Tryz.prog W = .ok (.bool true) W) := fun W => by rw [HNE.out]; rfl
          have HSZ1 : Hid (0 < (txt (q :: rs)).size) := by show _ < _; rw [txt_size]; simp
          have hix := fun W => index_text (txt (q :: rs)) 0 HSZ1.out 0 rfl W
          have h8 : at8 (txt (q :: rs)) 0 = q.toNat := by rw [at8_txt]; rfl
          rw [h8] at hix
          have HRB : Hid ((q :: rs).length ≤ 2000) := by show _ ≤ _; have := HMB.out; have := HLR3.out; omega
          clear h8 HNE
          by_cases hq10 : q = 10
          · have hn10 : (((q.toNat : Nat) : Int) != 10) = false := by rw [hq10]; rfl
            have HEND : Hid (filesP k (q :: rs) = ([], rs)) := by
              have h1 : Lib.cut (q :: rs) [10] = ([], rs, true) := by rw [hq10]; exact cut_at [] rs 10 (by simp)
              show _ = _
              rw [filesP_end k (by rw [h1]), h1]
            have hsl := fun W => slice_tail (txt (q :: rs)) 1 HSZ1.out 1 rfl W
            have h1 : (q :: rs).drop 1 = rs := rfl
            rw [tail_txt, h1] at hsl
            have hco := (ChRow.of HP.out.row HP.out.n20).desc
            have hfo := frozen_of_row wr cb 25 _ _ HP.out.row
            have HFD : Hid (fdone = (filesP R3.length R3).1) := by show _ = _; rw [HEX.out, HEND.out, List.append_nil]
            have HPT : Hid (PsAt w b2 cb C (.slice xa m xc) (.slice fa fm fc) (wr.setCell ⟨cb, 25, none⟩ (.string (txt rs)))) := HP.out.set 5 (.string (txt rs)) C _ _ (by show _ = _; rw [HCD.out, HEX.out, HEND.out, HC4.out]; rfl) (by rw [HC4.out])
            have HF2 : Hid (FrR cb wz (wr.setCell ⟨cb, 25, none⟩ (.string (txt rs)))) := HF.out.trans (FrR.setCell cb 25 _ _)
            have HRF : Hid (RowAt 1 strE (wr.setCell ⟨cb, 25, none⟩ (.string (txt rs))) fa C.fs) := by
              have h1 := ((HFO.out.move (w' := wr.setCell ⟨cb, 25, none⟩ (.string (txt rs))) fun g hg _ => heap_setCell_ne wr ⟨cb, 25, none⟩ _ g (by have := HCLZ.out; show g ≠ cb; omega)).fs strE_len).1
              rw [HFD.out, ← HCF.out] at h1
              exact h1
            have HRX : Hid (RowAt 2 extE (wr.setCell ⟨cb, 25, none⟩ (.string (txt rs))) xa C.xs) := by
              have h1 := ((HO.out.move (w' := (wr.setCell ⟨cb, 25, none⟩ (.string (txt rs)))) fun g hg hl => HF2.out.block g hl (by have := HCL.out; omega)).fs extE_len).1
              rw [HDN.out, ← HCX.out] at h1
              exact h1
            have HXN : Hid (C.xs.length = m) := by show _ = _; rw [HCX.out, ← HDN.out]; exact HM.out
            have HFN : Hid (C.fs.length = fm) := by show _ = _; rw [HCF.out, ← HFD.out]; exact HFM.out
            have HNX : Hid (∀ b' off, xa = some ⟨b', off, none⟩ → C.xs.length ≠ 0 → b' ≠ b2) := fun b' off he _ => by have := HO.out.base he; have := HBL.out; omega
            have HNF : Hid (∀ b' off, fa = some ⟨b', off, none⟩ → C.fs.length ≠ 0 → b' ≠ b2) := fun b' off he _ => by have := HFO.out.base he; have := HBL.out; have := HWZ.out; omega
            clear HEND HRK HMB hq10 h1
            generalize ((q.toNat : Nat) : Int) = qi at *
            have HCV : Hid ((chL C (.slice xa m xc) (.slice fa fm fc)).toArray = chV C xa xc fa fc) := by show _ = _; unfold chV; rw [HXN.out, HFN.out]; rfl
            have hbz := build_rch0
            go_wp2_with (first
              | refine wpList_eql (by rfl) .neq 9 _ _ _ rfl (.string (txt (q :: rs))) (.string ⟨#[]⟩) rfl rfl (.bool true) (guard_ne _ _ _ _) HNT.out ?_
              | (refine wpList_load_mid rfl 26 _ rfl cb 0 rfl (chL C (.slice xa m xc) (.slice fa fm fc)) _ (ChRow.of HPT.out.row HPT.out.n20).cells Tryz.underlying26 rfl (info_rch C _ _ HPT.out.n20) ?_; rw [HCV.out]))
            refine (rchright_any C xa xc fa fc (wr.setCell ⟨cb, 25, none⟩ (.string (txt rs))) HPT.out.n20 HRX.out HRF.out (by have := HWE.out.2.2.1; omega) (by have := HWE.out.2.2.2.1; omega) (by have := HWE.out.1; omega)).mono ?_
            rintro e wy ⟨rfl, hb⟩
            have HPY := Lib.hid (HPT.out.below hb)
            have HRXY := Lib.hid (HRX.out.below hb)
            have HRFY := Lib.hid (HRF.out.below hb)
            clear hb
            cases hrt : rightC C
            · have HPC : Hid (parseC L = none) := by
                show _ = _
                rw [← HPS.out, if_neg]
                rintro ⟨h, -⟩
                rw [hrt] at h; cases h
              clear hrt
              go_wp2_with (first
                | refine wpList_store_row rfl 26 _ _ rfl b2 (chA czero (.slice none 0 0) (.slice none 0 0)) rfl rfl 26 (chA czero (.slice none 0 0) (.slice none 0 0)) HPY.out.res HI0A.out rfl HZ1.out ?_)
              refine bodyPost_ret (results_row_tmp Tryz.results13 _ _ b2 26 (chA czero (.slice none 0 0) (.slice none 0 0)) (0, 0) _ rfl (setRow_heap _ _ _ _ _ _ HPY.out.res) Tryz.underlying26 rfl HI0A.out) rfl ⟨?_, ?_⟩
              · rw [HPC.out]; exact rfl
              · exact below_setRow HPY.out.bel HPY.out.l2 _
            · have HRT := Lib.hid hrt
              clear hrt
              go_wp2_with (first
                | (refine wpList_yield (yieldsIf_load_mid (by rfl) 26 _ rfl cb 0 rfl (chL C (.slice xa m xc) (.slice fa fm fc)) _ (fun W hW => by subst hW; exact (ChRow.of HPY.out.row HPY.out.n20).cells) Tryz.underlying26 rfl (info_rch C _ _ HPY.out.n20)) (by rfl) ?_; rw [HCV.out]))
              refine (rchprint_any C xa xc fa fc wy HPY.out.n20 HBY.out HRXY.out HRFY.out HWE.out).mono ?_
              rintro e wq ⟨rfl, hb⟩
              have HPQ := Lib.hid (HPY.out.below hb)
              have HRXQ := Lib.hid (HRXY.out.below hb)
              have HRFQ := Lib.hid (HRFY.out.below hb)
              clear hb
              cases heq : (txt (printL C)).toList == (txt L).toList
              · have HNE := Lib.hid (ne_str _ _ _ heq)
                have HPC : Hid (parseC L = none) := by
                  show _ = _
                  rw [← HPS.out, if_neg]
                  rintro ⟨-, h⟩
                  rw [h] at heq
                  simp at heq
                clear heq
                go_wp2_with (first
                  | refine wpList_eql (by rfl) .neq 9 _ _ _ rfl (.string (txt (printL C))) (.string (txt L)) rfl rfl (.bool true) (guard_ne _ _ _ _) (fun W => HNE.out W) ?_
                  | refine wpList_store_row rfl 26 _ _ rfl b2 (chA czero (.slice none 0 0) (.slice none 0 0)) rfl rfl 26 (chA czero (.slice none 0 0) (.slice none 0 0)) HPQ.out.res HI0A.out rfl HZ1.out ?_)
                refine bodyPost_ret (results_row_tmp Tryz.results13 _ _ b2 26 (chA czero (.slice none 0 0) (.slice none 0 0)) (0, 0) _ rfl (setRow_heap _ _ _ _ _ _ HPQ.out.res) Tryz.underlying26 rfl HI0A.out) rfl ⟨?_, ?_⟩
                · rw [HPC.out]; exact rfl
                · exact below_setRow HPQ.out.bel HPQ.out.l2 _
              · have HNE := Lib.hid (ne_str _ _ _ heq)
                have HPC : Hid (parseC L = some C) := by
                  show _ = _
                  have e : printL C = L := by
                    have h1 := toList_inj' _ _ (eq_of_beq heq)
                    rw [← txt_list (printL C), h1, txt_list]
                  rw [← HPS.out, if_pos ⟨HRT.out, e⟩]
                have HICA : Hid ((Tryz.prog.info? 26).map (·.size) = some (chV C xa xc fa fc).size) := info_rchA C _ _ HPQ.out.n20
                have HSO : Hid ((chA czero (.slice none 0 0) (.slice none 0 0)).size = (chV C xa xc fa fc).size) := by show _ = _; unfold chV; rw [chA_size _ _ _ czero_20, chA_size _ _ _ HPQ.out.n20]
                have HONE : Hid ((chV C xa xc fa fc).all (·.oneCell') = true) := chA_one C _ _ rfl rfl
                clear heq hbz
                go_wp2_with (first
                  | refine wpList_eql (by rfl) .neq 9 _ _ _ rfl (.string (txt (printL C))) (.string (txt L)) rfl rfl (.bool false) (guard_ne _ _ _ _) (fun W => HNE.out W) ?_
                  | (refine wpList_load_mid rfl 26 _ rfl cb 0 rfl (chL C (.slice xa m xc) (.slice fa fm fc)) _ (ChRow.of HPQ.out.row HPQ.out.n20).cells Tryz.underlying26 rfl (info_rch C _ _ HPQ.out.n20) ?_; rw [HCV.out])
                  | refine wpList_store_row rfl 26 _ _ rfl b2 (chV C xa xc fa fc) rfl rfl 26 (chA czero (.slice none 0 0) (.slice none 0 0)) HPQ.out.res HICA.out HSO.out HONE.out ?_)
                refine bodyPost_ret (results_row_tmp Tryz.results13 _ _ b2 26 (chV C xa xc fa fc) (0, 0) _ rfl (setRow_heap _ _ _ _ _ _ HPQ.out.res) Tryz.underlying26 rfl HICA.out) rfl ⟨?_, ?_⟩
                · rw [HPC.out]
                  exact ⟨xa, xc, fa, fc, rfl, rowat_setRow HRXQ.out HNX.out, rowat_setRow HRFQ.out HNF.out⟩
                · exact below_setRow HPQ.out.bel HPQ.out.l2 _
          · have hn10 : (((q.toNat : Nat) : Int) != 10) = true := bne_iff_ne.2 fun e => hq10 (UInt8.toNat_inj.1 (by show q.toNat = 10; omega))
            have hi10 : ¬ ((q.toNat : Nat) : Int) = 10 := fun e => hq10 (UInt8.toNat_inj.1 (by show q.toNat = 10; omega))
            obtain ⟨rest, hrest⟩ : ∃ l, q :: rs = l := ⟨_, rfl⟩
            have HC1 : Hid ((Lib.cut rest [10]).1 ≠ []) := by
              rw [← hrest]
              show _ ≠ _
              intro e
              rcases cut_or 10 (q :: rs) with hn | ⟨A, B, hAB, hA⟩
              · rw [cut_not _ _ hn] at e; cases e
              · rw [hAB, cut_at _ _ _ hA] at e
                simp only at e
                subst e
                injection hAB with h1 _
                exact hq10 h1
            rw [hrest] at HNT hix HRB HMB HRK HEX ⊢
            clear hrest hq10 HSZ1
            have HLL := Lib.hid (cut_rest_lt HC1.out)
            obtain ⟨k', rfl⟩ : ∃ k', k = k' + 1 := ⟨k - 1, by have := HRK.out; have := HLL.out; omega⟩
            have HFMO := Lib.hid (filesP_more k' HC1.out)
            have HLrest := HRB
            generalize ((q.toNat : Nat) : Int) = qi at *
            go_wp2_with (first
              | refine wpList_eql (by rfl) .neq 9 _ _ _ rfl (.string (txt rest)) (.string ⟨#[]⟩) rfl rfl (.bool true) (guard_ne _ _ _ _) HNT.out ?_)
            refine (until_any rest 10 wr (by have := HLrest.out; omega)).mono ?_
            rintro e w2 ⟨rfl, hb⟩
            have HB2 := Lib.hid hb
            have HP2 := Lib.hid (HP.out.below hb)
            have HF2 : Hid (FrR cb wz w2) := HF.out.trans (FrR.of hb)
            have HO2 := Lib.hid (HFO.out.below hb)
            clear hb
            obtain ⟨A, hA⟩ : ∃ A, txt (Lib.cut rest [10]).1 = A := ⟨_, rfl⟩
            obtain ⟨more, hmore⟩ : ∃ R, (Lib.cut rest [10]).2.1 = R := ⟨_, rfl⟩
            rw [hA, hmore] at HFMO ⊢
            rw [hmore] at HLL
            obtain ⟨m2, hm2⟩ : ∃ n, fm + 1 = n := ⟨_, rfl⟩
            have HM2 := Lib.hid hm2
            have HM2B : Hid (m2 ≤ 100000) := by show _ ≤ _; have := HMB.out; have := HLR3.out; omega
            have HMK : Hid (more.length ≤ k') := by show _ ≤ _; have := HLL.out; have := HRK.out; omega
            have HMB2 : Hid (m2 + more.length ≤ R3.length) := by show _ ≤ _; have := HLL.out; have := HMB.out; omega
            have HEX2 : Hid (filesP R3.length R3 = ((fdone ++ [A]) ++ (filesP k' more).1, (filesP k' more).2)) := by
              show _ = _
              rw [HEX.out, HFMO.out, List.append_assoc]; rfl
            have HM3 : Hid ((fdone ++ [A]).length = m2) := by show _ = _; rw [List.length_append, HFM.out]; exact HM2.out
            have HA5 : Hid (Below w2.heap.size w2 (w2.alloc (.cells #[.string A] 9))) := (Below.refl _ _).alloc (Nat.le_refl _) _
            have HP5 := Lib.hid (HP2.out.below HA5.out)
            have HF5 : Hid (FrR cb wz (w2.alloc (.cells #[.string A] 9))) := HF2.out.trans (FrR.of HA5.out)
            have HO5 := Lib.hid (HO2.out.below HA5.out)
            have hcf := (ChRow.of HP2.out.row HP2.out.n20).files
            clear hA hmore hm2 HC1
            go_wp2_with (first
              | refine wpList_slice rfl 24 1 #[(0, _)] rfl #[(0, .string A)] (map_one _ _ _ rfl) _ _ (slice_str _ w2) ?_
              | (refine wpList_append_G elem_str strE_len (by decide) (by decide) strE_one rfl _ _ rfl wz.heap.size (.slice fa fm fc) fdone fm HFM.out rfl HO5.out w2.heap.size 0 1 1 [A] rfl (by decide) rfl (one_str w2 _) m2 (fdone ++ [A]) HM2.out rfl (by have := HM2B.out; omega) HF5.out.size ?_
                 rintro g2 gc2 w7 ho7 hg7 hgg hgl
                 have HO7 := Lib.hid ho7
                 have HF7 : Hid (FrR cb wz w7) := HF5.out.grown hg7 (fun g hg => (HO5.out.lt hg).1)
                 have HP7 : Hid (PsAt w b2 cb C4 (.slice xa m xc) (.slice fa fm fc) w7) := HP5.out.grown hg7 (fun g hg => ⟨fun e => by have := (HO5.out.lt hg).1; have := HCLZ.out; omega, fun e => by have := (HO5.out.lt hg).1; have := HBL.out; have := HWZ.out; omega, by have := (HO5.out.lt hg).1; have := HWZW.out; omega⟩)
                 have hco7 := (ChRow.of HP7.out.row HP7.out.n20).files
                 have hfo7 := frozen_of_row w7 cb 24 _ _ HP7.out.row
                 have HP8 : Hid (PsAt w b2 cb C4 (.slice xa m xc) (.slice (some ⟨g2, 0, none⟩) m2 gc2) (w7.setCell ⟨cb, 24, none⟩ (.slice (some ⟨g2, 0, none⟩) m2 gc2))) := HP7.out.set 4 (.slice (some ⟨g2, 0, none⟩) m2 gc2) C4 _ _ rfl rfl
                 have HF8 : Hid (FrR cb wz (w7.setCell ⟨cb, 24, none⟩ (.slice (some ⟨g2, 0, none⟩) m2 gc2))) := HF7.out.trans (FrR.setCell cb 24 _ _)
                 have HO8 : Hid (OwnG 1 strE 9 (w7.setCell ⟨cb, 24, none⟩ (.slice (some ⟨g2, 0, none⟩) m2 gc2)) wz.heap.size (.slice (some ⟨g2, 0, none⟩) m2 gc2) (fdone ++ [A])) := HO7.out.move fun g hg _ => heap_setCell_ne w7 ⟨cb, 24, none⟩ _ g (by have := HCLZ.out; show g ≠ cb; omega)
                 clear ho7 hg7 hgg hgl hcf))
            exact ⟨⟨more, k', fdone ++ [A], some ⟨g2, 0, none⟩, gc2, m2, rfl, HM3.out, HMK.out, HMB2.out, HEX2.out, HO8.out, HP8.out, HF8.out⟩, by show (txt more).size < (txt rest).size; rw [txt_size, txt_size]; exact HLL.out⟩
    · have HNT : Hid (∀ W, (binOp .neq 9 (.string (txt rest)) (.string ⟨#[]⟩)).run Tryz.prog W = .ok (.bool true) W) := fun W => by
        rw [HNE.out]
        cases rest with
        | nil => exact absurd rfl hr0
        | cons a q => rfl
      obtain ⟨k', rfl⟩ : ∃ k', k = k' + 1 := ⟨k - 1, by have := HRK.out; have := List.length_pos_iff.2 hr0; omega⟩
      have HLrest : Hid (rest.length ≤ 2000) := by show _ ≤ _; have := HMB.out; have := HLE.out; omega
      have HCUT : Hid (extsRk (k' + 1) rest = wordP (Lib.cut rest [0]).1 :: extsRk k' (Lib.cut rest [0]).2.1) := by show _ = _; rw [extsRk, if_neg hr0]
      have HLT := Lib.hid (cut_lt 0 hr0)
      clear hr0 HNE
      go_wp2_with (first
        | refine wpList_eql (by rfl) .neq 9 _ _ _ rfl (.string (txt rest)) (.string ⟨#[]⟩) rfl rfl (.bool true) (guard_ne _ _ _ _) HNT.out ?_)
      refine (until_any rest 0 wr (by have := HLrest.out; omega)).mono ?_
      rintro e w2 ⟨rfl, hb⟩
      have HP2 := Lib.hid (HP.out.below hb)
      have HB2 := Lib.hid hb
      clear hb
      obtain ⟨one, hone⟩ : ∃ x, (Lib.cut rest [0]).1 = x := ⟨_, rfl⟩
      obtain ⟨more, hmore⟩ : ∃ x, (Lib.cut rest [0]).2.1 = x := ⟨_, rfl⟩
      have Hone := Lib.hid hone
      have Hmore := Lib.hid hmore
      have HLone : Hid (one.length ≤ 2000) := by show _ ≤ _; rw [← hone]; have := (cut_len rest 0).1; have := HLrest.out; omega
      have HLmore : Hid (more.length ≤ 2000) := by show _ ≤ _; rw [← hmore]; have := (cut_len rest 0).2; have := HLrest.out; omega
      rw [hone, hmore]
      clear hone hmore
      go_wp2_with fail
      have HF2 : Hid (FrR cb w1 w2) := HF.out.trans (FrR.of HB2.out)
      have HLone2 := HLone
      refine (until_any one 58 w2 (by have := HLone.out; omega)).mono ?_
      rintro e w3 ⟨rfl, hb⟩
      have HP3 := Lib.hid (HP2.out.below hb)
      have HF3 : Hid (FrR cb w1 w3) := HF2.out.trans (FrR.of hb)
      have HO3 := Lib.hid ((HO.out.below HB2.out).below hb)
      clear hb
      obtain ⟨key, hkey⟩ : ∃ x, (Lib.cut one [58]).1 = x := ⟨_, rfl⟩
      obtain ⟨vl, hvl⟩ : ∃ x, (Lib.cut one [58]).2.1 = x := ⟨_, rfl⟩
      have HLvl : Hid (vl.length ≤ 2000) := by show _ ≤ _; rw [← hvl]; have := (cut_len one 58).2; have := HLone.out; omega
      have HWP : Hid (wordP one = (txt key, txt (unval vl))) := by show _ = _; unfold wordP; rw [hkey, hvl]
      rw [hkey, hvl]
      clear hkey hvl
      obtain ⟨m2, hm2⟩ : ∃ n, m + 1 = n := ⟨_, rfl⟩
      have HM2 := Lib.hid hm2
      have HM2B : Hid (m2 ≤ 100000) := by show _ ≤ _; have := HMB.out; have := HLE.out; omega
      have HML : Hid (more.length < rest.length) := by show _ < _; rw [← Hmore.out]; exact HLT.out
      have HMK : Hid (more.length ≤ k') := by show _ ≤ _; have := HML.out; have := HRK.out; omega
      have HMB2 : Hid (m2 + more.length ≤ E.length) := by show _ ≤ _; have := HML.out; have := HMB.out; omega
      have HEX2 : Hid (extsRk E.length E = (done ++ [(txt key, txt (unval vl))]) ++ extsRk k' more) := by
        show _ = _
        rw [HEX.out, HCUT.out, Hone.out, Hmore.out, HWP.out, List.append_assoc]; rfl
      clear hm2
      go_wp2_with fail
      refine wp_region_noPanic ?_
      refine wp_region_held_drew (S := fun _ => True) (by kernel_rfl) ?_ (fun hHeld => ?_)
      · exact True.intro
      refine wpAnyH_take (i := 0) (v := ?_) (by simp only [List.getElem?_toArray, List.getElem?_cons_zero]; rfl) (by kernel_rfl) (by kernel_rfl) (by kernel_rfl) (fun _ _ _ h => h) (Or.inl ⟨by rfl, ?_⟩) (by assumption) ?_
      rotate_left
      · intro W hSW
        go_simp
        try with_reducible rfl
      try simp only [Act.put, List.setIfInBounds_toArray, List.set_cons_zero, List.set_cons_succ]
      refine wpAnyH_take (i := 2) (v := ?_) (by simp only [List.getElem?_toArray, List.getElem?_cons_succ, List.getElem?_cons_zero]; rfl) (by kernel_rfl) (by kernel_rfl) (by kernel_rfl) (fun _ _ _ h => h) (Or.inl ⟨by rfl, ?_⟩) (by assumption) ?_
      rotate_left
      · intro W hSW
        go_simp
        try with_reducible rfl
      try simp only [Act.put, List.setIfInBounds_toArray, List.set_cons_zero, List.set_cons_succ]
      refine wpAnyH_take (i := 3) (v := ?_) (by simp only [List.getElem?_toArray, List.getElem?_cons_succ, List.getElem?_cons_zero]; rfl) (by kernel_rfl) (by kernel_rfl) (by kernel_rfl) (fun _ _ _ h => h) (Or.inl ⟨by rfl, ?_⟩) (by assumption) ?_
      rotate_left
      · intro W hSW
        go_simp
        try with_reducible rfl
      try simp only [Act.put, List.setIfInBounds_toArray, List.set_cons_zero, List.set_cons_succ]
      refine wpAnyH_ready (rs := [1, 4]) (by kernel_rfl) (by simp) ?_
      refine AllReadyH.cons (by simp only [List.getElem?_toArray, List.getElem?_cons_succ, List.getElem?_cons_zero]; rfl) (fun K hK => ?_) (AllReadyH.cons (by simp only [List.getElem?_toArray, List.getElem?_cons_succ, List.getElem?_cons_zero]; rfl) (fun K hK => ?_) AllReadyH.nil)
      · have hcod := (ChRow.of (w := w3.drew) (by exact HP3.out.row) HP3.out.n20).exts
        go_simp
        refine hK.out _ _ (True.intro) (fun hHeld2 => ?_)
        clear hK K hHeld
        have hHeld := hHeld2
        clear hHeld2
        try simp only [Act.put, List.setIfInBounds_toArray, List.set_cons_zero, List.set_cons_succ]
        clear hcod
        refine wpAnyH_ready (rs := [4]) (by kernel_rfl) (by simp) ?_
        refine AllReadyH.cons (by simp only [List.getElem?_toArray, List.getElem?_cons_succ, List.getElem?_cons_zero]; rfl) (fun K hK => ?_) AllReadyH.nil
        go_simp
        refine (rback_any vl _ (by have := HLvl.out; omega)).mono ?_
        rintro e w4 ⟨rfl, hb⟩
        have hb4 : Below w3.heap.size w3 w4 := (Below.refl _ _).drew.trans hb
        clear hb
        have HP4 := Lib.hid (HP3.out.below hb4)
        have HF4 : Hid (FrR cb w1 w4) := HF3.out.trans (FrR.of hb4)
        have HO4 := Lib.hid (HO3.out.below hb4)
        have HA5 : Hid (Below w4.heap.size w4 (w4.alloc (.cells (extE (txt key, txt (unval vl))).toArray 47))) := (Below.refl _ _).alloc (Nat.le_refl _) _
        have HP5 := Lib.hid (HP4.out.below HA5.out)
        have HF5 : Hid (FrR cb w1 (w4.alloc (.cells (extE (txt key, txt (unval vl))).toArray 47))) := HF4.out.trans (FrR.of HA5.out)
        have HO5 := Lib.hid (HO4.out.below HA5.out)
        clear hb4
        go_wp2_with fail
        refine hK.out _ _ (True.intro) (fun hHeld2 => ?_)
        clear hK K hHeld
        have hHeld := hHeld2
        clear hHeld2
        try simp only [Act.put, List.setIfInBounds_toArray, List.set_cons_zero, List.set_cons_succ]
        refine wpAnyH_take (i := 5) (by simp only [List.getElem?_toArray, List.getElem?_cons_succ, List.getElem?_cons_zero]; rfl) (by kernel_rfl) (by kernel_rfl) (by kernel_rfl) (fun _ _ _ h => h) (yieldsIf_build (by rfl) _ _ rfl #[(0, .string (txt key)), (1, .string (txt (unval vl)))] (map_two _ _ _ _ _ rfl rfl) (.agg (extE (txt key, txt (unval vl))).toArray) (fun W => build_rext (txt key) (txt (unval vl)) W)) (by assumption) ?_
        try simp only [Act.put, List.setIfInBounds_toArray, List.set_cons_zero, List.set_cons_succ]
        refine wpAnyH_ready (rs := [6]) (by kernel_rfl) (by simp) ?_
        refine AllReadyH.cons (by simp only [List.getElem?_toArray, List.getElem?_cons_succ, List.getElem?_cons_zero]; rfl) (fun K hK => ?_) AllReadyH.nil
        refine step_slice (by rfl) _ _ _ rfl #[(0, .agg (extE (txt key, txt (unval vl))).toArray)] (map_one _ _ _ rfl) _ _ (slice_G1 elem_rext (by decide) (by decide) (by decide) extE_len (txt key, txt (unval vl)) _ rfl _) ?_
        refine hK.out _ _ (True.intro) (fun hHeld2 => ?_)
        clear hK K hHeld
        have hHeld := hHeld2
        clear hHeld2
        try simp only [Act.put, List.setIfInBounds_toArray, List.set_cons_zero, List.set_cons_succ]
        refine wpAnyH_ready (rs := [7]) (by kernel_rfl) (by simp) ?_
        refine AllReadyH.cons (by simp only [List.getElem?_toArray, List.getElem?_cons_succ, List.getElem?_cons_zero]; rfl) (fun K hK => ?_) AllReadyH.nil
        refine step_append_G elem_rext extE_len (by decide) (by decide) extE_one (by rfl) _ _ rfl w1.heap.size (.slice xa m xc) done m HM.out rfl HO5.out w4.heap.size 0 1 1 [(txt key, txt (unval vl))] rfl (by decide) rfl (one_G w4 _ (txt key, txt (unval vl))) m2 (done ++ [(txt key, txt (unval vl))]) HM2.out rfl (by have := HM2B.out; omega) HF5.out.size ?_
        rintro g2 gc2 w7 ho7 hg7 hgg hgl
        have HO7 := Lib.hid ho7
        have HF7 : Hid (FrR cb w1 w7) := HF5.out.grown hg7 (fun g hg => (HO5.out.lt hg).1)
        have HP7 : Hid (PsAt w b2 cb C4 (.slice xa m xc) (.slice none 0 0) w7) := HP5.out.grown hg7 (fun g hg => ⟨fun e => by have := (HO5.out.lt hg).1; have := HCL.out; omega, fun e => by have := (HO5.out.lt hg).1; have := HBL.out; omega, by have := (HO5.out.lt hg).1; have := HW1.out; omega⟩)
        clear ho7 hg7 hgg hgl
        refine hK.out _ _ (True.intro) (fun hHeld2 => ?_)
        clear hK K hHeld
        have hHeld := hHeld2
        clear hHeld2
        try simp only [Act.put, List.setIfInBounds_toArray, List.set_cons_zero, List.set_cons_succ]
        refine wpAnyH_take (i := 8) (v := ?_) (by simp only [List.getElem?_toArray, List.getElem?_cons_succ, List.getElem?_cons_zero]; rfl) (by kernel_rfl) (by kernel_rfl) (by kernel_rfl) (fun _ _ _ h => h) (Or.inl ⟨by rfl, ?_⟩) (by assumption) ?_
        rotate_left
        · intro W hSW
          go_simp
          try with_reducible rfl
        try simp only [Act.put, List.setIfInBounds_toArray, List.set_cons_zero, List.set_cons_succ]
        have hco7 := (ChRow.of HP7.out.row HP7.out.n20).exts
        have hfo7 := frozen_of_row w7 cb 23 _ _ HP7.out.row
        refine wpAnyH_ready (rs := [9]) (by kernel_rfl) (by simp) ?_
        refine AllReadyH.cons (by simp only [List.getElem?_toArray, List.getElem?_cons_succ, List.getElem?_cons_zero]; rfl) (fun K hK => ?_) AllReadyH.nil
        go_simp
        have HP8 : Hid (PsAt w b2 cb C4 (.slice (some ⟨g2, 0, none⟩) m2 gc2) (.slice none 0 0) (w7.setCell ⟨cb, 23, none⟩ (.slice (some ⟨g2, 0, none⟩) m2 gc2))) := HP7.out.set 3 (.slice (some ⟨g2, 0, none⟩) m2 gc2) C4 _ _ rfl rfl
        have HF8 : Hid (FrR cb w1 (w7.setCell ⟨cb, 23, none⟩ (.slice (some ⟨g2, 0, none⟩) m2 gc2))) := HF7.out.trans (FrR.setCell cb 23 _ _)
        have HO8 : Hid (OwnG 2 extE 47 (w7.setCell ⟨cb, 23, none⟩ (.slice (some ⟨g2, 0, none⟩) m2 gc2)) w1.heap.size (.slice (some ⟨g2, 0, none⟩) m2 gc2) (done ++ [(txt key, txt (unval vl))])) := HO7.out.move fun g hg _ => heap_setCell_ne w7 ⟨cb, 23, none⟩ _ g (by have := HCL.out; show g ≠ cb; omega)
        refine hK.out _ _ (True.intro) (fun hHeld2 => ?_)
        clear hK K hHeld
        have hHeld := hHeld2
        clear hHeld2
        try simp only [Act.put, List.setIfInBounds_toArray, List.set_cons_zero, List.set_cons_succ]
        refine wpAnyH_done (by kernel_rfl) ?_ _
        refine NoPanic.normal ?_
        clear hHeld hco7 hfo7
        go_wp2_with fail
        exact ⟨⟨more, k', done ++ [(txt key, txt (unval vl))], some ⟨g2, 0, none⟩, gc2, m2, rfl, by rw [List.length_append, HM.out]; exact HM2.out, HMK.out, HMB2.out, HEX2.out, HO8.out, HP8.out, HF8.out⟩, by show (txt more).size < (txt rest).size; rw [txt_size, txt_size]; exact HML.out⟩
      · go_simp
        refine (rback_any vl _ (by have := HLvl.out; omega)).mono ?_
        rintro e w4 ⟨rfl, hb⟩
        have hb4 : Below w3.heap.size w3 w4 := (Below.refl _ _).drew.trans hb
        clear hb
        have HP4 := Lib.hid (HP3.out.below hb4)
        have HF4 : Hid (FrR cb w1 w4) := HF3.out.trans (FrR.of hb4)
        have HO4 := Lib.hid (HO3.out.below hb4)
        have HA5 : Hid (Below w4.heap.size w4 (w4.alloc (.cells (extE (txt key, txt (unval vl))).toArray 47))) := (Below.refl _ _).alloc (Nat.le_refl _) _
        have HP5 := Lib.hid (HP4.out.below HA5.out)
        have HF5 : Hid (FrR cb w1 (w4.alloc (.cells (extE (txt key, txt (unval vl))).toArray 47))) := HF4.out.trans (FrR.of HA5.out)
        have HO5 := Lib.hid (HO4.out.below HA5.out)
        clear hb4
        go_wp2_with fail
        refine hK.out _ _ (True.intro) (fun hHeld2 => ?_)
        clear hK K hHeld
        have hHeld := hHeld2
        clear hHeld2
        try simp only [Act.put, List.setIfInBounds_toArray, List.set_cons_zero, List.set_cons_succ]
        refine wpAnyH_take (i := 5) (by simp only [List.getElem?_toArray, List.getElem?_cons_succ, List.getElem?_cons_zero]; rfl) (by kernel_rfl) (by kernel_rfl) (by kernel_rfl) (fun _ _ _ h => h) (yieldsIf_build (by rfl) _ _ rfl #[(0, .string (txt key)), (1, .string (txt (unval vl)))] (map_two _ _ _ _ _ rfl rfl) (.agg (extE (txt key, txt (unval vl))).toArray) (fun W => build_rext (txt key) (txt (unval vl)) W)) (by assumption) ?_
        try simp only [Act.put, List.setIfInBounds_toArray, List.set_cons_zero, List.set_cons_succ]
        refine wpAnyH_ready (rs := [1, 6]) (by kernel_rfl) (by simp) ?_
        refine AllReadyH.cons (by simp only [List.getElem?_toArray, List.getElem?_cons_succ, List.getElem?_cons_zero]; rfl) (fun K hK => ?_) (AllReadyH.cons (by simp only [List.getElem?_toArray, List.getElem?_cons_succ, List.getElem?_cons_zero]; rfl) (fun K hK => ?_) AllReadyH.nil)
        · have hcod := (ChRow.of HP4.out.row HP4.out.n20).exts
          go_simp
          refine hK.out _ _ (True.intro) (fun hHeld2 => ?_)
          clear hK K hHeld
          have hHeld := hHeld2
          clear hHeld2
          try simp only [Act.put, List.setIfInBounds_toArray, List.set_cons_zero, List.set_cons_succ]
          clear hcod
          refine wpAnyH_ready (rs := [6]) (by kernel_rfl) (by simp) ?_
          refine AllReadyH.cons (by simp only [List.getElem?_toArray, List.getElem?_cons_succ, List.getElem?_cons_zero]; rfl) (fun K hK => ?_) AllReadyH.nil
          refine step_slice (by rfl) _ _ _ rfl #[(0, .agg (extE (txt key, txt (unval vl))).toArray)] (map_one _ _ _ rfl) _ _ (slice_G1 elem_rext (by decide) (by decide) (by decide) extE_len (txt key, txt (unval vl)) _ rfl _) ?_
          refine hK.out _ _ (True.intro) (fun hHeld2 => ?_)
          clear hK K hHeld
          have hHeld := hHeld2
          clear hHeld2
          try simp only [Act.put, List.setIfInBounds_toArray, List.set_cons_zero, List.set_cons_succ]
          refine wpAnyH_ready (rs := [7]) (by kernel_rfl) (by simp) ?_
          refine AllReadyH.cons (by simp only [List.getElem?_toArray, List.getElem?_cons_succ, List.getElem?_cons_zero]; rfl) (fun K hK => ?_) AllReadyH.nil
          refine step_append_G elem_rext extE_len (by decide) (by decide) extE_one (by rfl) _ _ rfl w1.heap.size (.slice xa m xc) done m HM.out rfl HO5.out w4.heap.size 0 1 1 [(txt key, txt (unval vl))] rfl (by decide) rfl (one_G w4 _ (txt key, txt (unval vl))) m2 (done ++ [(txt key, txt (unval vl))]) HM2.out rfl (by have := HM2B.out; omega) HF5.out.size ?_
          rintro g2 gc2 w7 ho7 hg7 hgg hgl
          have HO7 := Lib.hid ho7
          have HF7 : Hid (FrR cb w1 w7) := HF5.out.grown hg7 (fun g hg => (HO5.out.lt hg).1)
          have HP7 : Hid (PsAt w b2 cb C4 (.slice xa m xc) (.slice none 0 0) w7) := HP5.out.grown hg7 (fun g hg => ⟨fun e => by have := (HO5.out.lt hg).1; have := HCL.out; omega, fun e => by have := (HO5.out.lt hg).1; have := HBL.out; omega, by have := (HO5.out.lt hg).1; have := HW1.out; omega⟩)
          clear ho7 hg7 hgg hgl
          refine hK.out _ _ (True.intro) (fun hHeld2 => ?_)
          clear hK K hHeld
          have hHeld := hHeld2
          clear hHeld2
          try simp only [Act.put, List.setIfInBounds_toArray, List.set_cons_zero, List.set_cons_succ]
          refine wpAnyH_take (i := 8) (v := ?_) (by simp only [List.getElem?_toArray, List.getElem?_cons_succ, List.getElem?_cons_zero]; rfl) (by kernel_rfl) (by kernel_rfl) (by kernel_rfl) (fun _ _ _ h => h) (Or.inl ⟨by rfl, ?_⟩) (by assumption) ?_
          rotate_left
          · intro W hSW
            go_simp
            try with_reducible rfl
          try simp only [Act.put, List.setIfInBounds_toArray, List.set_cons_zero, List.set_cons_succ]
          have hco7 := (ChRow.of HP7.out.row HP7.out.n20).exts
          have hfo7 := frozen_of_row w7 cb 23 _ _ HP7.out.row
          refine wpAnyH_ready (rs := [9]) (by kernel_rfl) (by simp) ?_
          refine AllReadyH.cons (by simp only [List.getElem?_toArray, List.getElem?_cons_succ, List.getElem?_cons_zero]; rfl) (fun K hK => ?_) AllReadyH.nil
          go_simp
          have HP8 : Hid (PsAt w b2 cb C4 (.slice (some ⟨g2, 0, none⟩) m2 gc2) (.slice none 0 0) (w7.setCell ⟨cb, 23, none⟩ (.slice (some ⟨g2, 0, none⟩) m2 gc2))) := HP7.out.set 3 (.slice (some ⟨g2, 0, none⟩) m2 gc2) C4 _ _ rfl rfl
          have HF8 : Hid (FrR cb w1 (w7.setCell ⟨cb, 23, none⟩ (.slice (some ⟨g2, 0, none⟩) m2 gc2))) := HF7.out.trans (FrR.setCell cb 23 _ _)
          have HO8 : Hid (OwnG 2 extE 47 (w7.setCell ⟨cb, 23, none⟩ (.slice (some ⟨g2, 0, none⟩) m2 gc2)) w1.heap.size (.slice (some ⟨g2, 0, none⟩) m2 gc2) (done ++ [(txt key, txt (unval vl))])) := HO7.out.move fun g hg _ => heap_setCell_ne w7 ⟨cb, 23, none⟩ _ g (by have := HCL.out; show g ≠ cb; omega)
          refine hK.out _ _ (True.intro) (fun hHeld2 => ?_)
          clear hK K hHeld
          have hHeld := hHeld2
          clear hHeld2
          try simp only [Act.put, List.setIfInBounds_toArray, List.set_cons_zero, List.set_cons_succ]
          refine wpAnyH_done (by kernel_rfl) ?_ _
          refine NoPanic.normal ?_
          clear hHeld hco7 hfo7
          go_wp2_with fail
          exact ⟨⟨more, k', done ++ [(txt key, txt (unval vl))], some ⟨g2, 0, none⟩, gc2, m2, rfl, by rw [List.length_append, HM.out]; exact HM2.out, HMK.out, HMB2.out, HEX2.out, HO8.out, HP8.out, HF8.out⟩, by show (txt more).size < (txt rest).size; rw [txt_size, txt_size]; exact HML.out⟩
        · refine step_slice (by rfl) _ _ _ rfl #[(0, .agg (extE (txt key, txt (unval vl))).toArray)] (map_one _ _ _ rfl) _ _ (slice_G1 elem_rext (by decide) (by decide) (by decide) extE_len (txt key, txt (unval vl)) _ rfl _) ?_
          refine hK.out _ _ (True.intro) (fun hHeld2 => ?_)
          clear hK K hHeld
          have hHeld := hHeld2
          clear hHeld2
          try simp only [Act.put, List.setIfInBounds_toArray, List.set_cons_zero, List.set_cons_succ]
          refine wpAnyH_ready (rs := [1]) (by kernel_rfl) (by simp) ?_
          refine AllReadyH.cons (by simp only [List.getElem?_toArray, List.getElem?_cons_succ, List.getElem?_cons_zero]; rfl) (fun K hK => ?_) AllReadyH.nil
          have hcod := (ChRow.of HP5.out.row HP5.out.n20).exts
          go_simp
          refine hK.out _ _ (True.intro) (fun hHeld2 => ?_)
          clear hK K hHeld
          have hHeld := hHeld2
          clear hHeld2
          try simp only [Act.put, List.setIfInBounds_toArray, List.set_cons_zero, List.set_cons_succ]
          clear hcod
          refine wpAnyH_ready (rs := [7]) (by kernel_rfl) (by simp) ?_
          refine AllReadyH.cons (by simp only [List.getElem?_toArray, List.getElem?_cons_succ, List.getElem?_cons_zero]; rfl) (fun K hK => ?_) AllReadyH.nil
          refine step_append_G elem_rext extE_len (by decide) (by decide) extE_one (by rfl) _ _ rfl w1.heap.size (.slice xa m xc) done m HM.out rfl HO5.out w4.heap.size 0 1 1 [(txt key, txt (unval vl))] rfl (by decide) rfl (one_G w4 _ (txt key, txt (unval vl))) m2 (done ++ [(txt key, txt (unval vl))]) HM2.out rfl (by have := HM2B.out; omega) HF5.out.size ?_
          rintro g2 gc2 w7 ho7 hg7 hgg hgl
          have HO7 := Lib.hid ho7
          have HF7 : Hid (FrR cb w1 w7) := HF5.out.grown hg7 (fun g hg => (HO5.out.lt hg).1)
          have HP7 : Hid (PsAt w b2 cb C4 (.slice xa m xc) (.slice none 0 0) w7) := HP5.out.grown hg7 (fun g hg => ⟨fun e => by have := (HO5.out.lt hg).1; have := HCL.out; omega, fun e => by have := (HO5.out.lt hg).1; have := HBL.out; omega, by have := (HO5.out.lt hg).1; have := HW1.out; omega⟩)
          clear ho7 hg7 hgg hgl
          refine hK.out _ _ (True.intro) (fun hHeld2 => ?_)
          clear hK K hHeld
          have hHeld := hHeld2
          clear hHeld2
          try simp only [Act.put, List.setIfInBounds_toArray, List.set_cons_zero, List.set_cons_succ]
          refine wpAnyH_take (i := 8) (v := ?_) (by simp only [List.getElem?_toArray, List.getElem?_cons_succ, List.getElem?_cons_zero]; rfl) (by kernel_rfl) (by kernel_rfl) (by kernel_rfl) (fun _ _ _ h => h) (Or.inl ⟨by rfl, ?_⟩) (by assumption) ?_
          rotate_left
          · intro W hSW
            go_simp
            try with_reducible rfl
          try simp only [Act.put, List.setIfInBounds_toArray, List.set_cons_zero, List.set_cons_succ]
          have hco7 := (ChRow.of HP7.out.row HP7.out.n20).exts
          have hfo7 := frozen_of_row w7 cb 23 _ _ HP7.out.row
          refine wpAnyH_ready (rs := [9]) (by kernel_rfl) (by simp) ?_
          refine AllReadyH.cons (by simp only [List.getElem?_toArray, List.getElem?_cons_succ, List.getElem?_cons_zero]; rfl) (fun K hK => ?_) AllReadyH.nil
          go_simp
          have HP8 : Hid (PsAt w b2 cb C4 (.slice (some ⟨g2, 0, none⟩) m2 gc2) (.slice none 0 0) (w7.setCell ⟨cb, 23, none⟩ (.slice (some ⟨g2, 0, none⟩) m2 gc2))) := HP7.out.set 3 (.slice (some ⟨g2, 0, none⟩) m2 gc2) C4 _ _ rfl rfl
          have HF8 : Hid (FrR cb w1 (w7.setCell ⟨cb, 23, none⟩ (.slice (some ⟨g2, 0, none⟩) m2 gc2))) := HF7.out.trans (FrR.setCell cb 23 _ _)
          have HO8 : Hid (OwnG 2 extE 47 (w7.setCell ⟨cb, 23, none⟩ (.slice (some ⟨g2, 0, none⟩) m2 gc2)) w1.heap.size (.slice (some ⟨g2, 0, none⟩) m2 gc2) (done ++ [(txt key, txt (unval vl))])) := HO7.out.move fun g hg _ => heap_setCell_ne w7 ⟨cb, 23, none⟩ _ g (by have := HCL.out; show g ≠ cb; omega)
          refine hK.out _ _ (True.intro) (fun hHeld2 => ?_)
          clear hK K hHeld
          have hHeld := hHeld2
          clear hHeld2
          try simp only [Act.put, List.setIfInBounds_toArray, List.set_cons_zero, List.set_cons_succ]
          refine wpAnyH_done (by kernel_rfl) ?_ _
          refine NoPanic.normal ?_
          clear hHeld hco7 hfo7
          go_wp2_with fail
          exact ⟨⟨more, k', done ++ [(txt key, txt (unval vl))], some ⟨g2, 0, none⟩, gc2, m2, rfl, by rw [List.length_append, HM.out]; exact HM2.out, HMK.out, HMB2.out, HEX2.out, HO8.out, HP8.out, HF8.out⟩, by show (txt more).size < (txt rest).size; rw [txt_size, txt_size]; exact HML.out⟩
end Go.Proofs.YthokcdjmhhlcdaaGreatDoor
