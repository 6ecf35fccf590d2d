/- The document's Parse: the walk. -/
import Derived.Test.YtindmggmblmmcaaGreatDoorCoRawB
import Derived.Deep.CutBlock
namespace Go.Proofs.YtindmggmblmmcaaGreatDoor
open Go.RowKit Plain Go.ChangeShapes Go.WideShapes Go.ChangeAt Go.Great
set_option linter.unusedVariables false
set_option linter.unusedSimpArgs false
theorem fTree_any (l : List UInt8) (w : World) (hl : l.length ≤ 1000000) : Calls Tryz.prog 48 #[.string (txt l), .string ⟨#[116, 114, 101, 101, 32]⟩] w fun e w' => e = .returned (.string (txt (frontW (kTree ++ [32]) l))) ∧ Below w.heap.size w w' := frontw_any (kTree ++ [32]) l w (by decide) hl
theorem fPar_any (l : List UInt8) (w : World) (hl : l.length ≤ 1000000) : Calls Tryz.prog 48 #[.string (txt l), .string ⟨#[112, 97, 114, 101, 110, 116, 32]⟩] w fun e w' => e = .returned (.string (txt (frontW (kPar ++ [32]) l))) ∧ Below w.heap.size w w' := frontw_any (kPar ++ [32]) l w (by decide) hl
theorem fAut_any (l : List UInt8) (w : World) (hl : l.length ≤ 1000000) : Calls Tryz.prog 48 #[.string (txt l), .string ⟨#[97, 117, 116, 104, 111, 114, 32]⟩] w fun e w' => e = .returned (.string (txt (frontW (kAut ++ [32]) l))) ∧ Below w.heap.size w w' := frontw_any (kAut ++ [32]) l w (by decide) hl
theorem fCom_any (l : List UInt8) (w : World) (hl : l.length ≤ 1000000) : Calls Tryz.prog 48 #[.string (txt l), .string ⟨#[99, 111, 109, 109, 105, 116, 116, 101, 114, 32]⟩] w fun e w' => e = .returned (.string (txt (frontW (kCom ++ [32]) l))) ∧ Below w.heap.size w w' := frontw_any (kCom ++ [32]) l w (by decide) hl
theorem built_rcoz : Tryz.prog.built 28 [] = some (coA cz (.slice none 0 0) (.slice none 0 0)) := by kernel_rfl
theorem build_rcoz (W : World) : (Instr.build 28 #[]).run Tryz.prog W = .ok (.agg (coA cz (.slice none 0 0) (.slice none 0 0))) W := run_build W _ _ _ built_rcoz
/-- What the document's Parse answers. -/
def RParse (e : Ending) (w' : World) (o : Option CC) : Prop := match o with
  | some c => ∃ pa pc xa xc, e = .returned (.tuple #[.agg (coV c pa pc xa xc), .bool true]) ∧ CoAt w' c pa xa
  | none => e = .returned (.tuple #[.agg (coA cz (.slice none 0 0) (.slice none 0 0)), .bool false])
set_option maxRecDepth 100000 in
set_option maxHeartbeats 32000000 in
theorem rparse_any (L : List UInt8) (w : World) (hL : L.length ≤ 2000) (hE : EnvC w) :
    Calls Tryz.prog 16 #[.string (txt L)] w fun e w' => RParse e w' (parseC L) ∧ Below w.heap.size w w' := by
  have HE := Lib.hid hE
  have hbnd := raw_bounds L hL
  have hrp := raw_parse L
  have hsl := sum_lines _ L (Nat.le_refl _)
  have hgood := raw_good L
  have hlines : ∀ W : World, Calls Tryz.prog 46 #[.string (txt L)] W fun e w' => LinesQ W.heap.size e w' L ∧ Below W.heap.size W w' := fun W => lines_any L W (by omega)
  unfold LinesQ at hlines
  have hln := lines_ne L
  have hraw : rawR L = ⟨rwT (linesF L), (rwP (linesF L)).1, (rwA (linesF L)).1, (rwC (linesF L)).1, (rwE (linesF L)).1, txt (joinL ((rwE (linesF L)).2.drop 1))⟩ := rfl
  unfold rwE rwC rwA rwP at hraw
  obtain ⟨l, hl⟩ : ∃ l, linesF L = l := ⟨_, rfl⟩
  rw [hl] at hraw hsl hlines hln
  obtain ⟨x0, r0, hx0⟩ : ∃ x r, l = x :: r := by
    cases l with
    | nil => exact absurd rfl hln
    | cons x r => exact ⟨x, r, rfl⟩
  obtain ⟨tr, htr⟩ : ∃ t, parsed (txt (frontW (kTree ++ [32]) x0)) = t := ⟨_, rfl⟩
  have htw : rwT l = tr := by rw [hx0]; exact htr
  obtain ⟨P1, P2, hP⟩ : ∃ a b, rPar (l.drop 1) = (a, b) := ⟨_, _, rfl⟩
  rw [hP, htw] at hraw
  obtain ⟨WA, A2, hA⟩ : ∃ a b, rWho kAut P2 = (a, b) := ⟨_, _, rfl⟩
  simp only [hA] at hraw
  obtain ⟨WC, C2, hC⟩ : ∃ a b, rWho kCom A2 = (a, b) := ⟨_, _, rfl⟩
  simp only [hC] at hraw
  obtain ⟨E1, E2, hEx⟩ : ∃ a b, rExt [] C2 = (a, b) := ⟨_, _, rfl⟩
  simp only [hEx] at hraw
  rw [hraw] at hbnd hrp hgood
  have HBND := Lib.hid hbnd
  have HRP := Lib.hid hrp
  have HGOOD := Lib.hid hgood
  have HPP := Lib.hid hP
  have HAA := Lib.hid hA
  have HCC := Lib.hid hC
  have HEE := Lib.hid hEx
  have HTR : Hid (tr.length = 20) := by rw [← htr]; exact parsed_length _
  have HSL : Hid (sumL l ≤ 2001) := by show _ ≤ _; omega
  have HLL : Hid (∀ (k : Nat) x, l[k]? = some x → x.length ≤ 2000) := fun k x hk => by have := sum_mem l x (List.mem_of_getElem? hk); omega
  obtain ⟨n, hn⟩ : ∃ n, l.length = n := ⟨_, rfl⟩
  have HN := Lib.hid hn
  have HN1 : Hid (1 ≤ n) := by rw [← hn, hx0]; exact Nat.succ_le_succ (Nat.zero_le _)
  have HNB : Hid (n ≤ 2001) := by have := sum_count l; show _ ≤ _; omega
  have HX0 : Hid (l[0]? = some x0) := by rw [hx0]; rfl
  rw [hn] at hlines
  have HTRE := Lib.hid htr
  have hzr := zero_rco
  have HB1 : Hid (Below w.heap.size w (w.alloc (.cells (coA cz (.slice none 0 0) (.slice none 0 0)) 28))) := (Below.refl _ _).alloc (Nat.le_refl _) _
  have HZ1 : Hid ((w.alloc (.cells (coA cz (.slice none 0 0) (.slice none 0 0)) 28)).heap[w.heap.size]? = some (.cells (coA cz (.slice none 0 0) (.slice none 0 0)) 28 (0, 0))) := heap_alloc_new _ _
  clear hbnd hrp hgood hraw hsl hln hx0 hL hE hP hA hC hEx htr htw hl hn
  go_enter Tryz.func16, Tryz.ntmps16
  go_wp2_with fail
  refine (hlines _).mono ?_
  rintro e w1 ⟨⟨la, lc, rfl, hO⟩, hb⟩
  clear hlines
  obtain ⟨lb, rfl, hlb1, hlb2, hcell⟩ := lines_cell hO
  have HB2 := Lib.hid (HB1.out.trans (hb.mono HB1.out.size))
  have HZ2 := Lib.hid ((hb.block _ (by simp)).trans HZ1.out)
  have HW4 : Hid (RS 20 idE 22 (w1.alloc (.cells (coA cz (.slice none 0 0) (.slice none 0 0)) 28)) w1.heap.size (w1.heap.size + 1) (w1.alloc (.cells (coA cz (.slice none 0 0) (.slice none 0 0)) 28)) cz (.slice none 0 0) (.slice none 0 0) (.slice none 0 0) []) := ⟨FrR.refl _ _, cz_20, heap_alloc_new _ _, OwnG.nil _ _ _, by simp⟩
  have HB4 : Hid (Below w.heap.size w (w1.alloc (.cells (coA cz (.slice none 0 0) (.slice none 0 0)) 28))) := HB2.out.alloc HB2.out.size _
  have HZ4 : Hid ((w1.alloc (.cells (coA cz (.slice none 0 0) (.slice none 0 0)) 28)).heap[w.heap.size]? = some (.cells (coA cz (.slice none 0 0) (.slice none 0 0)) 28 (0, 0))) := (Below.heap_alloc _ _ _ (Array.getElem?_eq_some_iff.1 HZ2.out).1).trans HZ2.out
  have HFL : Hid (∀ W, FrR w1.heap.size (w1.alloc (.cells (coA cz (.slice none 0 0) (.slice none 0 0)) 28)) W → ∀ (k : Nat) x, l[k]? = some x → W.cell? ⟨lb, k, none⟩ = some (.string (txt x))) := fun W hW k x hk => hcell W ((hW.block lb (by simp; omega) (by omega)).trans (Below.heap_alloc _ _ _ hlb2)) k (txt x) (by rw [List.getElem?_map, hk]; rfl)
  have HLB : Hid (lb < w1.heap.size) := hlb2
  have HSZ : Hid (w.heap.size < w1.heap.size) := by have := hb.size; simp at this; show _ < _; omega
  have HS4 : Hid ((w1.alloc (.cells (coA cz (.slice none 0 0) (.slice none 0 0)) 28)).heap.size = w1.heap.size + 1) := by show _ = _; simp
  clear hO hb hcell hlb1 hlb2 HB1 HZ1 HB2 HZ2
  have h0n : (0 : Int) < (n : Int) := by have := HN1.out; omega
  go_upto_if 18 with fail
  generalize w1.alloc (.cells (coA cz (.slice none 0 0) (.slice none 0 0)) 28) = w4 at *
  obtain ⟨cb, hcb⟩ : ∃ c, w1.heap.size = c := ⟨_, rfl⟩
  simp only [hcb] at HW4 HFL HLB HSZ HS4 ⊢
  clear hcb
  obtain ⟨B, hB⟩ : ∃ B, cb + 1 = B := ⟨_, rfl⟩
  rw [hB] at HW4 HS4
  have HCB : Hid (cb < B) := by show _ < _; omega
  have HS4' : Hid (w4.heap.size ≤ B) := Nat.le_of_eq HS4.out
  clear hB
  have HFB : Hid (∀ W, FrR cb w4 W → Below w.heap.size w W) := fun W hW => HB4.out.trans (hW.below (Nat.le_of_lt HSZ.out) HB4.out.size)
  have HFZ : Hid (∀ W, FrR cb w4 W → W.heap[w.heap.size]? = some (.cells (coA cz (.slice none 0 0) (.slice none 0 0)) 28 (0, 0))) := fun W hW => (hW.block _ (Array.getElem?_eq_some_iff.1 HZ4.out).1 (by have := HSZ.out; omega)).trans HZ4.out
  have hc0 := HFL.out w4 (FrR.refl _ _) 0 x0 HX0.out
  go_wp2_with fail
  refine (fTree_any x0 w4 (by have := HLL.out 0 x0 HX0.out; omega)).mono ?_
  rintro e w5 ⟨rfl, hb⟩
  have HW5 := Lib.hid (HW4.out.below hb)
  clear hb hc0 HW4 HB4 HZ4
  go_wp2_with fail
  refine (refParse_any (txt (frontW (kTree ++ [32]) x0)) w5 (by rw [txt_size]; have h1 := HLL.out 0 x0 HX0.out; have h2 := frontW_len (kTree ++ [32]) x0; omega)).mono ?_
  rintro e w6 ⟨rfl, hb⟩
  rw [HTRE.out]
  generalize isHex (txt (frontW (kTree ++ [32]) x0)) = hx
  have HW6 := Lib.hid (HW5.out.below hb)
  have HTH : Hid (w6.there cb 0 (V8 tr).size) := rco_there HW6.out.co HW6.out.h20 0 _ (by rw [V8_size, HTR.out]; decide)
  have HW7 : Hid (RS 20 idE 22 w4 cb B (w6.setCells cb 0 (V8 tr).toList) { cz with tr := tr } (.slice none 0 0) (.slice none 0 0) (.slice none 0 0) []) := HW6.out.cells 0 (U8 tr) { cz with tr := tr } HTR.out (coA_tree cz _ _ cz_20 tr HTR.out) HCB.out
  clear hb HW5
  go_upto_block 0 with (first
    | (refine wpList_store_mid rfl 22 _ _ rfl cb 0 (V8 tr) rfl rfl HTH.out (info24 tr HTR.out) (V8_one tr) ?_
       clear HTH HW6
       generalize w6.setCells cb 0 (V8 tr).toList = w7 at *))
  go_cut [6] from 13 (fun at_ wx => ∃ (k : Nat) (pa : Option Addr) (pc : Nat), at_ = .int .i64 (k : Int) ∧ k ≤ n ∧ l.drop k = P2 ∧ RS 20 idE 22 w4 cb B wx { cz with tr := tr } (.slice pa P1.length pc) (.slice none 0 0) (.slice pa P1.length pc) P1)
  case first =>
    go_wp2_with fail
    go_loopw [6] (fun i wr => ∃ (k : Nat) (pa : Option Addr) (pc dn : Nat) (done : List (List Int)), i = .int .i64 (k : Int) ∧ k ≤ n ∧ done.length = dn ∧ dn ≤ k ∧ done ++ (rPar (l.drop k)).1 = P1 ∧ (rPar (l.drop k)).2 = P2 ∧ RS 20 idE 22 w4 cb B wr { cz with tr := tr } (.slice pa dn pc) (.slice none 0 0) (.slice pa dn pc) done) (fun i _ => n - (intOf i).toNat)
    case atStart => exact ⟨1, none, 0, 0, [], rfl, HN1.out, rfl, Nat.zero_le _, by rw [HPP.out]; rfl, by rw [HPP.out], HW7.out⟩
    case round =>
      obtain ⟨k, pa, pc, dn, done, rfl, hk, hdn, hkd, hp1, hp2, hw⟩ := hrel
      have hpar := And.intro hp1 hp2
      have HDN := Lib.hid hdn
      have HKD := Lib.hid hkd
      have HWr := Lib.hid hw
      have WK := Lib.hid (next_int k (by have := HNB.out; omega))
      clear hp1 hp2 hw HW7 hdn hkd
      by_cases hkn : k < n
      · have hki : (k : Int) < (n : Int) := by omega
        have HKN : Hid (k + 1 ≤ n) := hkn
        obtain ⟨x, hx⟩ : ∃ x, l[k]? = some x := ⟨_, List.getElem?_eq_getElem (by rw [HN.out]; exact hkn)⟩
        have HX := Lib.hid hx
        have HXL := Lib.hid (HLL.out k x hx)
        have hcx := HFL.out wr HWr.out.fr k x hx
        clear hx
        by_cases hF : frontW (kPar ++ [32]) x = []
        · have HND : Hid (done = P1 ∧ l.drop k = P2) := by
            rw [drop_cons HX.out, rPar_stop hF] at hpar
            rw [drop_cons HX.out]
            exact ⟨by rw [← hpar.1]; simp, hpar.2⟩
          have HNE : Hid (∀ W, (binOp .neq 9 (.string (txt (frontW (kPar ++ [32]) x))) (.string ⟨#[]⟩)).run Tryz.prog W = .ok (.bool false) W) := fun W => by rw [str_neq, txt_list, hF]; rfl
          have HKL := Lib.hid hk
          clear hF hpar hkn hk
          go_wp2_with fail
          refine (fPar_any x wr (by have := HXL.out; omega)).mono ?_
          rintro e w8 ⟨rfl, hb⟩
          have HW8 := Lib.hid (HWr.out.below hb)
          clear hb hcx HWr
          go_wp2_with (first
            | refine wpList_eql (by rfl) .neq 9 _ _ _ rfl (.string (txt (frontW (kPar ++ [32]) x))) (.string ⟨#[]⟩) rfl rfl (.bool false) (guard_strn _ _ _ _) HNE.out ?_)
          go_meet
          have h1 := HW8.out
          have h2 := HDN.out
          obtain ⟨h3, h4⟩ := HND.out
          subst h3
          subst h2
          exact ⟨k, pa, pc, rfl, HKL.out, h4, h1⟩
        · skip
          obtain ⟨p, hp⟩ : ∃ p, parsed (txt (frontW (kPar ++ [32]) x)) = p := ⟨_, rfl⟩
          have HP20 : Hid (p.length = 20) := by rw [← hp]; exact parsed_length _
          have HPE := Lib.hid hp
          have HGO : Hid (done ++ [p] ++ (rPar (l.drop (k + 1))).1 = P1 ∧ (rPar (l.drop (k + 1))).2 = P2) := by
            rw [drop_cons HX.out, rPar_go hF, hp] at hpar
            refine ⟨?_, hpar.2⟩
            rw [← hpar.1]; simp
          have HNE : Hid (∀ W, (binOp .neq 9 (.string (txt (frontW (kPar ++ [32]) x))) (.string ⟨#[]⟩)).run Tryz.prog W = .ok (.bool true) W) := fun W => by
            rw [str_neq, txt_list]
            cases hq : frontW (kPar ++ [32]) x with
            | nil => exact absurd hq hF
            | cons a b => rfl
          clear hF hp hpar hkn hk
          go_wp2_with fail
          refine (fPar_any x wr (by have := HXL.out; omega)).mono ?_
          rintro e w8 ⟨rfl, hb⟩
          have HW8 := Lib.hid (HWr.out.below hb)
          have hcx8 := HFL.out w8 HW8.out.fr k x HX.out
          clear hb hcx HWr
          have hz24 := zero_24
          go_wp2_with (first
            | refine wpList_eql (by rfl) .neq 9 _ _ _ rfl (.string (txt (frontW (kPar ++ [32]) x))) (.string ⟨#[]⟩) rfl rfl (.bool true) (guard_strn _ _ _ _) HNE.out ?_)
          refine (fPar_any x w8 (by have := HXL.out; omega)).mono ?_
          rintro e w9 ⟨rfl, hb⟩
          have HW9 := Lib.hid (HW8.out.below hb)
          clear hb hcx8 HW8
          go_wp2_with fail
          refine (refParse_any (txt (frontW (kPar ++ [32]) x)) w9 (by rw [txt_size]; have h1 := HXL.out; have h2 := frontW_len (kPar ++ [32]) x; omega)).mono ?_
          rintro e w10 ⟨rfl, hb⟩
          rw [HPE.out]
          generalize isHex (txt (frontW (kPar ++ [32]) x)) = hx
          have HW10 := Lib.hid (HW9.out.below hb)
          have HZF : Hid ((w10.alloc (.cells (V8 zeros20) 22)).heap[w10.heap.size]? = some (.cells (V8 zeros20) 22 (0, 0))) := heap_alloc_new _ _
          have HBA : Hid (Below w10.heap.size w10 ((w10.alloc (.cells (V8 zeros20) 22)).setRow w10.heap.size (V8 p))) := below_setRow ((Below.refl _ _).alloc (Nat.le_refl _) _) (Nat.le_refl _) _
          have HRG : Hid (((w10.alloc (.cells (V8 zeros20) 22)).setRow w10.heap.size (V8 p)).rangeAt w10.heap.size 0 (U8 p)) := fun j v hj => by
            rw [cell_of_row _ _ _ _ _ _ (setRow_heap _ _ _ _ _ _ HZF.out)]
            rw [show V8 p = (U8 p).toArray from rfl, List.getElem?_toArray, Nat.zero_add]
            exact hj
          have HW11 := Lib.hid (HW10.out.below HBA.out)
          have HPS : Hid ((V8 zeros20).size = (V8 p).size) := by show _ = _; rw [V8_size, V8_size, HP20.out]; rfl
          clear hb HW9
          have hcp := (CoRow.of HW11.out.co HTR.out).pars
          have hfp := frozen_of_row _ cb 20 _ _ HW11.out.co
          have HIE : Hid ((idE p).toArray = V8 p) := by show _ = _; rw [idE_of HP20.out]; rfl
          go_upto_region 9 with (first
            | refine wpList_store_row rfl 22 _ _ rfl w10.heap.size (V8 p) rfl rfl 22 (V8 zeros20) HZF.out (info24 p HP20.out) HPS.out (V8_one p) ?_)
          clear HZF HPS HBA HW10
          generalize (w10.alloc (.cells (V8 zeros20) 22)).setRow w10.heap.size (V8 p) = w11 at *
          obtain ⟨pb, hpb⟩ : ∃ b, w10.heap.size = b := ⟨_, rfl⟩
          simp only [hpb] at HRG ⊢
          clear hpb
          have HBX : Hid (Below w11.heap.size w11 (w11.alloc (.cells (idE p).toArray 22))) := (Below.refl _ _).alloc (Nat.le_refl _) _
          have HOA : Hid (OwnG 20 idE 22 (w11.alloc (.cells (idE p).toArray 22)) B (.slice pa dn pc) done) := HW11.out.own.below HBX.out
          have HBS : Hid (B ≤ (w11.alloc (.cells (idE p).toArray 22)).heap.size) := Nat.le_trans HW11.out.sz HBX.out.size
          have HDN2 : Hid ((done ++ [p]).length = dn + 1) := by show _ = _; rw [List.length_append, HDN.out]; rfl
          go_wp2_with (first
            | refine wpList_load_mid rfl 22 _ rfl pb 0 rfl (U8 p) _ HRG.out Tryz.underlying22 rfl (id20_info8 _ HP20.out) ?_
            | refine wpList_slice rfl 23 1 #[(0, _)] rfl #[(0, .agg (V8 p))] (map_one _ _ _ rfl) _ _ (slice_G1 elem_a20 (by decide) (by decide) (by decide) idE_len p (.agg (V8 p)) (by rw [HIE.out]; rfl) w11) ?_
            | (refine wpList_append_G elem_a20 idE_len (by decide) (by decide) idE_one rfl _ _ rfl B (.slice pa dn pc) done dn HDN.out rfl HOA.out w11.heap.size 0 1 1 [p] rfl (by decide) rfl (one_G w11 22 p) (dn + 1) (done ++ [p]) rfl rfl (by have := HKN.out; have := HNB.out; have := HKD.out; omega) HBS.out ?_
               rintro g2 gc2 w12 ho7 hg7 hgg hgl
               have HW12 := Lib.hid (HW11.out.append HBX.out HOA.out hg7 ho7 HCB.out HS4'.out)
               clear ho7 hg7 hgg hgl hcp hfp
               have hcp := (CoRow.of HW12.out.co HTR.out).pars
               have hfp := frozen_of_row _ cb 20 _ _ HW12.out.co))
          refine ⟨⟨k + 1, some ⟨g2, 0, none⟩, gc2, dn + 1, done ++ [p], by first | rw [WK.out _ rfl] | rfl, HKN.out, HDN2.out, by have := HKD.out; omega, HGO.out.1, HGO.out.2, HW12.out.cell 20 _ { cz with tr := tr } HTR.out (by rw [coA_set _ _ _ HTR.out 0]; rfl) HCB.out⟩, by have := HKN.out; (first | rw [WK.out _ rfl] | skip); simp [intOf]; omega⟩
      · have hki : ¬ (k : Int) < (n : Int) := by omega
        have HND : Hid (done = P1 ∧ l.drop k = P2) := by
          have hd : l.drop k = [] := List.drop_eq_nil_of_le (by rw [HN.out]; omega)
          rw [hd] at hpar ⊢
          exact ⟨by rw [← hpar.1]; show done = done ++ []; simp, hpar.2⟩
        have HKL := Lib.hid hk
        clear hkn hk hpar
        go_wp2_with fail
        go_meet
        have h1 := HWr.out
        have h2 := HDN.out
        obtain ⟨h3, h4⟩ := HND.out
        subst h3
        subst h2
        exact ⟨k, pa, pc, rfl, HKL.out, h4, h1⟩
  case rest =>
    obtain ⟨k, pa, pc, rfl, hk, hdr, hw⟩ := hcut
    have HK := Lib.hid hk
    have HDR := Lib.hid hdr
    have HWc := Lib.hid hw
    clear hk hdr hw HW7
    go_upto_if 63 with fail
    go_cut [6] from 13 (fun at_ wx => ∃ (k2 : Nat), at_ = .int .i64 (k2 : Int) ∧ k2 ≤ n ∧ l.drop k2 = A2 ∧ RS 20 idE 22 w4 cb B wx { cz with tr := tr, a := WA } (.slice pa P1.length pc) (.slice none 0 0) (.slice pa P1.length pc) P1)
    case first =>
      by_cases hkn : k < n
      · have hki : (k : Int) < (n : Int) := by omega
        have HKN : Hid (k + 1 ≤ n) := hkn
        have WK := Lib.hid (next_int k (by have := HNB.out; omega))
        obtain ⟨x, hx⟩ : ∃ x, l[k]? = some x := ⟨_, List.getElem?_eq_getElem (by rw [HN.out]; exact hkn)⟩
        have HXL := Lib.hid (HLL.out k x hx)
        have hcx := HFL.out wc HWc.out.fr k x hx
        have HWW : Hid (guessX (frontW (kAut ++ [32]) x) = WA ∧ l.drop (k + 1) = A2) := by
          have h1 := HAA.out
          rw [← HDR.out, drop_cons hx] at h1
          have h2 : ((guessX (frontW (kAut ++ [32]) x), l.drop (k + 1)) : WX × List (List UInt8)) = (WA, A2) := h1
          simp only [Prod.mk.injEq] at h2
          exact h2
        clear hx hkn
        go_wp2_with fail
        refine (fAut_any x wc (by have := HXL.out; omega)).mono ?_
        rintro e w8 ⟨rfl, hb⟩
        have HW8 := Lib.hid (HWc.out.below hb)
        clear hb hcx HWc
        go_wp2_with fail
        refine (guess_any (frontW (kAut ++ [32]) x) w8 (by have h1 := HXL.out; have h2 := frontW_len (kAut ++ [32]) x; omega)).mono ?_
        rintro e w9 ⟨rfl, hb⟩
        rw [HWW.out.1]
        have HW9 := Lib.hid (HW8.out.below hb)
        have HTH : Hid (w9.there cb 21 (whoA WA).size) := rco_there HW9.out.co HW9.out.h20 21 _ (by show 21 + 4 ≤ 31; decide)
        have HW10 : Hid (RS 20 idE 22 w4 cb B (w9.setCells cb 21 (whoA WA).toList) { cz with tr := tr, a := WA } (.slice pa P1.length pc) (.slice none 0 0) (.slice pa P1.length pc) P1) := HW9.out.cells 21 (whoL WA) { cz with tr := tr, a := WA } HTR.out (coA_author { cz with tr := tr } _ _ HTR.out WA) HCB.out
        clear hb HW8
        go_wp2_with (first
          | (refine wpList_store_mid rfl 25 _ _ rfl cb 21 (whoA WA) rfl rfl HTH.out (info_rwho WA) (who_one WA) ?_
             clear HTH HW9
             generalize w9.setCells cb 21 (whoA WA).toList = w10 at *))
        go_meet
        exact ⟨k + 1, by first | rw [WK.out _ rfl] | rfl, HKN.out, HWW.out.2, HW10.out⟩
      · have hki : ¬ (k : Int) < (n : Int) := by omega
        have HWW : Hid (wzero = WA ∧ l.drop k = A2) := by
          have hd : l.drop k = [] := List.drop_eq_nil_of_le (by rw [HN.out]; omega)
          have h1 := HAA.out
          rw [← HDR.out, hd] at h1
          have h2 : ((wzero, []) : WX × List (List UInt8)) = (WA, A2) := h1
          simp only [Prod.mk.injEq] at h2
          rw [hd]
          exact h2
        clear hkn
        go_wp2_with fail
        go_meet
        have h1 := HWc.out
        rw [← HWW.out.1, ← HWW.out.2]
        exact ⟨k, rfl, HK.out, rfl, h1⟩
    case rest =>
      obtain ⟨k2, rfl, hk2, hdr2, hw2⟩ := hcut
      clear HWc HK HDR
      have HK := Lib.hid hk2
      have HDR := Lib.hid hdr2
      have HWc := Lib.hid hw2
      clear hk2 hdr2 hw2
      go_upto_if 76 with fail
      go_cut [6] from 13 (fun at_ wx => ∃ (K2 : Nat), at_ = .int .i64 (K2 : Int) ∧ K2 ≤ n ∧ l.drop K2 = C2 ∧ RS 20 idE 22 w4 cb B wx { cz with tr := tr, a := WA, c := WC } (.slice pa P1.length pc) (.slice none 0 0) (.slice pa P1.length pc) P1)
      case first =>
        by_cases hkn : k2 < n
        · have hki : (k2 : Int) < (n : Int) := by omega
          have HKN : Hid (k2 + 1 ≤ n) := hkn
          have WK := Lib.hid (next_int k2 (by have := HNB.out; omega))
          obtain ⟨x, hx⟩ : ∃ x, l[k2]? = some x := ⟨_, List.getElem?_eq_getElem (by rw [HN.out]; exact hkn)⟩
          have HXL := Lib.hid (HLL.out k2 x hx)
          have hcx := HFL.out wc HWc.out.fr k2 x hx
          have HWW : Hid (guessX (frontW (kCom ++ [32]) x) = WC ∧ l.drop (k2 + 1) = C2) := by
            have h1 := HCC.out
            rw [← HDR.out, drop_cons hx] at h1
            have h2 : ((guessX (frontW (kCom ++ [32]) x), l.drop (k2 + 1)) : WX × List (List UInt8)) = (WC, C2) := h1
            simp only [Prod.mk.injEq] at h2
            exact h2
          clear hx hkn
          go_wp2_with fail
          refine (fCom_any x wc (by have := HXL.out; omega)).mono ?_
          rintro e w8 ⟨rfl, hb⟩
          have HW8 := Lib.hid (HWc.out.below hb)
          clear hb hcx HWc
          go_wp2_with fail
          refine (guess_any (frontW (kCom ++ [32]) x) w8 (by have h1 := HXL.out; have h2 := frontW_len (kCom ++ [32]) x; omega)).mono ?_
          rintro e w9 ⟨rfl, hb⟩
          rw [HWW.out.1]
          have HW9 := Lib.hid (HW8.out.below hb)
          have HTH : Hid (w9.there cb 25 (whoA WC).size) := rco_there HW9.out.co HW9.out.h20 25 _ (by show 25 + 4 ≤ 31; decide)
          have HW10 : Hid (RS 20 idE 22 w4 cb B (w9.setCells cb 25 (whoA WC).toList) { cz with tr := tr, a := WA, c := WC } (.slice pa P1.length pc) (.slice none 0 0) (.slice pa P1.length pc) P1) := HW9.out.cells 25 (whoL WC) { cz with tr := tr, a := WA, c := WC } HTR.out (coA_committer { cz with tr := tr, a := WA } _ _ HTR.out WC) HCB.out
          clear hb HW8
          go_wp2_with (first
            | (refine wpList_store_mid rfl 25 _ _ rfl cb 25 (whoA WC) rfl rfl HTH.out (info_rwho WC) (who_one WC) ?_
               clear HTH HW9
               generalize w9.setCells cb 25 (whoA WC).toList = w10 at *))
          go_meet
          exact ⟨k2 + 1, by first | rw [WK.out _ rfl] | rfl, HKN.out, HWW.out.2, HW10.out⟩
        · have hki : ¬ (k2 : Int) < (n : Int) := by omega
          have HWW : Hid (wzero = WC ∧ l.drop k2 = C2) := by
            have hd : l.drop k2 = [] := List.drop_eq_nil_of_le (by rw [HN.out]; omega)
            have h1 := HCC.out
            rw [← HDR.out, hd] at h1
            have h2 : ((wzero, []) : WX × List (List UInt8)) = (WC, C2) := h1
            simp only [Prod.mk.injEq] at h2
            rw [hd]
            exact h2
          clear hkn
          go_wp2_with fail
          go_meet
          have h1 := HWc.out
          rw [← HWW.out.1, ← HWW.out.2]
          exact ⟨k2, rfl, HK.out, rfl, h1⟩
      case rest =>
        obtain ⟨k3, rfl, hk2, hdr2, hw2⟩ := hcut
        clear HWc HK HDR
        have HK := Lib.hid hk2
        have HDR := Lib.hid hdr2
        have HWc := Lib.hid hw2
        clear hk2 hdr2 hw2
        generalize wc = w9 at *
        obtain ⟨B9, hB9⟩ : ∃ b, w9.heap.size = b := ⟨_, rfl⟩
        have HB9 := Lib.hid hB9
        have HCB9 : Hid (cb < B9) := by have h1 := HWc.out.sz; have h2 := HCB.out; show _ < _; omega
        have HX0' : Hid (RS 2 extE 75 w9 cb B9 w9 { cz with tr := tr, a := WA, c := WC } (.slice pa P1.length pc) (.slice none 0 0) (.slice none 0 0) []) := ⟨FrR.refl _ _, HTR.out, HWc.out.co, OwnG.nil _ _ _, Nat.le_of_eq hB9.symm⟩
        have HFL9 : Hid (∀ W, FrR cb w9 W → ∀ (k : Nat) x, l[k]? = some x → W.cell? ⟨lb, k, none⟩ = some (.string (txt x))) := fun W hW => HFL.out W (HWc.out.fr.trans hW)
        clear hB9
        go_upto_block 2 with fail
        go_cut [6] from 13 (fun at_ wx => ∃ (k : Nat) (xa : Option Addr) (xc : Nat), at_ = .int .i64 (k : Int) ∧ k ≤ n ∧ l.drop k = E2 ∧ RS 2 extE 75 w9 cb B9 wx { cz with tr := tr, a := WA, c := WC } (.slice pa P1.length pc) (.slice xa E1.length xc) (.slice xa E1.length xc) E1)
        case first =>
          go_wp2_with fail
          go_loopw [6] (fun i wr => ∃ (k : Nat) (xa : Option Addr) (xc m : Nat) (xs : List (ByteArray × ByteArray)), i = .int .i64 (k : Int) ∧ k ≤ n ∧ xs.length = m ∧ m ≤ k ∧ rExt xs (l.drop k) = (E1, E2) ∧ exsz xs + sumL (l.drop k) ≤ 2001 ∧ RS 2 extE 75 w9 cb B9 wr { cz with tr := tr, a := WA, c := WC } (.slice pa P1.length pc) (.slice xa m xc) (.slice xa m xc) xs) (fun i _ => n - (intOf i).toNat)
          case atStart => exact ⟨k3, none, 0, 0, [], rfl, HK.out, rfl, Nat.zero_le _, by rw [HDR.out]; exact HEE.out, by have h1 := sum_drop l k3; have h2 := HSL.out; show 0 + _ ≤ _; omega, HX0'.out⟩
          case round =>
            obtain ⟨k, xa, xc, m, xs, rfl, hk, hm, hmk, hex, hsz, hw⟩ := hrel
            have HM := Lib.hid hm
            have HMK := Lib.hid hmk
            have HWr := Lib.hid hw
            have WK := Lib.hid (next_int k (by have := HNB.out; omega))
            have hx29 := (CoRow.of hw.co HTR.out).exts
            clear hw HX0' hm hmk
            by_cases hkn : k < n
            · have hki : (k : Int) < (n : Int) := by omega
              have HKN : Hid (k + 1 ≤ n) := hkn
              obtain ⟨x, hx⟩ : ∃ x, l[k]? = some x := ⟨_, List.getElem?_eq_getElem (by rw [HN.out]; exact hkn)⟩
              have HX := Lib.hid hx
              have HXL := Lib.hid (HLL.out k x hx)
              have hcx := HFL9.out wr HWr.out.fr k x hx
              rw [drop_cons hx] at hex hsz
              clear hx
              cases x with
              | nil =>
                have HND : Hid (xs = E1 ∧ l.drop k = E2) := by
                  rw [drop_cons HX.out]
                  have h2 : ((xs, [] :: l.drop (k + 1)) : List (ByteArray × ByteArray) × List (List UInt8)) = (E1, E2) := hex
                  simp only [Prod.mk.injEq] at h2
                  exact h2
                have HNE : Hid (∀ W, (binOp .neq 9 (.string (txt [])) (.string ⟨#[]⟩)).run Tryz.prog W = .ok (.bool false) W) := fun W => by rw [str_neq, txt_list]; rfl
                have HKL := Lib.hid hk
                clear hex hsz hkn hk
                go_wp2_with (first
                  | refine wpList_eql (by rfl) .neq 9 _ _ _ rfl (.string (txt [])) (.string ⟨#[]⟩) rfl rfl (.bool false) (guard_strn _ _ _ _) HNE.out ?_)
                go_meet
                have h1 := HWr.out
                have h2 := HM.out
                obtain ⟨h3, h4⟩ := HND.out
                subst h3
                subst h2
                exact ⟨k, xa, xc, rfl, HKL.out, h4, h1⟩
              | cons c0 xr =>
                have hex2 : rExt (extStep xs (c0 :: xr)) (l.drop (k + 1)) = (E1, E2) := by
                  have h2 : (if c0 :: xr = [] then (xs, (c0 :: xr) :: l.drop (k + 1)) else rExt (extStep xs (c0 :: xr)) (l.drop (k + 1))) = (E1, E2) := hex
                  rwa [if_neg (by simp)] at h2
                have hsz2 : exsz (extStep xs (c0 :: xr)) + sumL (l.drop (k + 1)) ≤ 2001 := by
                  have h1 := ext_size xs (c0 :: xr) (by simp)
                  have h2 : exsz xs + ((c0 :: xr).length + 1 + sumL (l.drop (k + 1))) ≤ 2001 := hsz
                  omega
                have HSZ2 : Hid (exsz xs ≤ 2001) := by show _ ≤ _; omega
                have HNE : Hid (∀ W, (binOp .neq 9 (.string (txt (c0 :: xr))) (.string ⟨#[]⟩)).run Tryz.prog W = .ok (.bool true) W) := fun W => by rw [str_neq, txt_list]; rfl
                have hix : ∀ W, (Instr.index 9 (.string (txt (c0 :: xr))) (.int .i64 0)).run Tryz.prog W = .ok (.int .u8 (c0.toNat : Int)) W := fun W => by
                  have h := index_text (txt (c0 :: xr)) 0 (by rw [txt_size]; simp) 0 rfl W
                  rw [at8_txt] at h
                  exact h
                have hsl : ∀ W, (Instr.slice 9 (.string (txt (c0 :: xr))) (some (.int .i64 1)) none none).run Tryz.prog W = .ok (.string (txt xr)) W := fun W => slice_tl (c0 :: xr) 1 (by simp) 1 rfl W
                clear hex hsz hkn hk
                by_cases h32 : c0 = 32
                · subst h32
                  have hix' : ∀ W, (Instr.index 9 (.string (txt (32 :: xr))) (.int .i64 0)).run Tryz.prog W = .ok (.int .u8 32) W := hix
                  clear hix
                  rcases List.eq_nil_or_concat xs with h0 | ⟨init, y, h0⟩
                  · have hm0 : m = 0 := by rw [← HM.out, h0]; rfl
                    have hw9 : wrap64 ((m : Int) - 1) = -1 := by rw [hm0]; unfold wrap64; omega
                    have hng : ¬ (0 : Int) ≤ -1 := by decide
                    have hst : extStep xs (32 :: xr) = xs ++ [(txt (Lib.cut (32 :: xr) [32]).1, txt (Lib.cut (32 :: xr) [32]).2.1)] := if_neg fun h => h.2 h0
                    rw [hst] at hex2 hsz2
                    have HST := Lib.hid (And.intro hex2 hsz2)
                    clear h0 hm0 hst hex2 hsz2
                    generalize 32 :: xr = x at *
                    go_wp2_with (first
                      | refine wpList_eql (by rfl) .neq 9 _ _ _ rfl (.string (txt x)) (.string ⟨#[]⟩) rfl rfl (.bool true) (guard_strn _ _ _ _) HNE.out ?_)
                    refine (rcut_any x 32 wr (by have := HXL.out; omega)).mono ?_
                    rintro e w10 ⟨rfl, hb⟩
                    have HW10 := Lib.hid (HWr.out.below hb)
                    clear hb hx29 hcx HWr
                    obtain ⟨K2, hK2⟩ : ∃ s, txt (Lib.cut x [32]).1 = s := ⟨_, rfl⟩
                    obtain ⟨V2, hV2⟩ : ∃ s, txt (Lib.cut x [32]).2.1 = s := ⟨_, rfl⟩
                    rw [hK2, hV2] at HST ⊢
                    clear hK2 hV2
                    have hcp := (CoRow.of HW10.out.co HTR.out).exts
                    have hfp := frozen_of_row _ cb 29 _ _ HW10.out.co
                    go_upto_region 22 with fail
                    have HBX : Hid (Below w10.heap.size w10 (w10.alloc (.cells (extE (K2, V2)).toArray 75))) := (Below.refl _ _).alloc (Nat.le_refl _) _
                    have HOA : Hid (OwnG 2 extE 75 (w10.alloc (.cells (extE (K2, V2)).toArray 75)) B9 (.slice xa m xc) xs) := HW10.out.own.below HBX.out
                    have HBS : Hid (B9 ≤ (w10.alloc (.cells (extE (K2, V2)).toArray 75)).heap.size) := Nat.le_trans HW10.out.sz HBX.out.size
                    have HDN2 : Hid ((xs ++ [(K2, V2)]).length = m + 1) := by show _ = _; rw [List.length_append, HM.out]; rfl
                    go_wp2_with (first
                      | refine wpList_buildQ rfl 75 _ rfl #[(0, .string K2), (1, .string V2)] (map_two _ _ _ _ _ rfl rfl) _ (build_rext K2 V2) ?_
                      | refine wpList_slice rfl 26 1 #[(0, _)] rfl #[(0, .agg (extE (K2, V2)).toArray)] (map_one _ _ _ rfl) _ _ (slice_G1 elem_rext (by decide) (by decide) (by decide) extE_len (K2, V2) (.agg (extE (K2, V2)).toArray) rfl w10) ?_
                      | (refine wpList_append_G elem_rext extE_len (by decide) (by decide) extE_one rfl _ _ rfl B9 (.slice xa m xc) xs m HM.out rfl HOA.out w10.heap.size 0 1 1 [(K2, V2)] rfl (by decide) rfl (one_G w10 75 (K2, V2)) (m + 1) (xs ++ [(K2, V2)]) rfl rfl (by have := HMK.out; have := HKN.out; have := HNB.out; omega) HBS.out ?_
                         rintro g2 gc2 w12 ho7 hg7 hgg hgl
                         have HW12 := Lib.hid (HW10.out.append HBX.out HOA.out hg7 ho7 HCB9.out (Nat.le_of_eq HB9.out))
                         clear ho7 hg7 hgg hgl hcp hfp
                         have hcp := (CoRow.of HW12.out.co HTR.out).exts
                         have hfp := frozen_of_row _ cb 29 _ _ HW12.out.co))
                    exact ⟨⟨k + 1, some ⟨g2, 0, none⟩, gc2, m + 1, xs ++ [(K2, V2)], by first | rw [WK.out _ rfl] | rfl, HKN.out, HDN2.out, by have := HMK.out; omega, HST.out.1, HST.out.2, HW12.out.cell 29 _ { cz with tr := tr, a := WA, c := WC } HTR.out (by rw [coA_set _ _ _ HTR.out 9]; rfl) HCB9.out⟩, by have := HKN.out; (first | rw [WK.out _ rfl] | skip); simp [intOf]; omega⟩
                  · rw [List.concat_eq_append] at h0
                    obtain ⟨j, hj⟩ : ∃ j, init.length = j := ⟨_, rfl⟩
                    have hmj : m = j + 1 := by rw [← HM.out, h0, List.length_append, hj]; rfl
                    have hw9 : wrap64 ((m : Int) - 1) = (j : Int) := by
                      rw [hmj]
                      have h1 := HMK.out
                      have h2 := HKN.out
                      have h3 := HNB.out
                      unfold wrap64
                      omega
                    have hj0 : (0 : Int) ≤ (j : Int) := by omega
                    have hjm : (j : Int) < (m : Int) := by omega
                    have hmn : m ≠ 0 := by omega
                    obtain ⟨g, rfl⟩ := own_addr HWr.out.own hmn
                    obtain ⟨T1, hT1⟩ : ∃ t, y.2.data.toList ++ [10] = t := ⟨_, rfl⟩
                    obtain ⟨T2, hT2⟩ : ∃ t, T1 ++ xr = t := ⟨_, rfl⟩
                    have hst : extStep xs (32 :: xr) = init ++ [(y.1, txt T2)] := by
                      have h1 : extStep xs (32 :: xr) = addV xs xr := if_pos ⟨rfl, by rw [h0]; simp⟩
                      rw [h1, h0]
                      unfold addV
                      rw [List.getLast?_concat, List.dropLast_concat, ← hT2, ← hT1]
                    have hys : y.2.size ≤ 2001 := by
                      have h1 := exsz_mem xs y (by rw [h0]; simp)
                      have h2 := HSZ2.out
                      omega
                    rw [hst] at hex2 hsz2
                    have HST := Lib.hid (And.intro hex2 hsz2)
                    have l1 : T1.length = y.2.size + 1 := by rw [← hT1, List.length_append, Lib.size_eq]; rfl
                    have hxl : xr.length ≤ 2000 := by have := HXL.out; simp only [List.length_cons] at this; omega
                    have HA1 : Hid (∀ W, (binOp .add 9 (.string y.2) (.string ⟨#[10]⟩)).run Tryz.prog W = .ok (.string (txt T1)) W) := fun W => add_txt _ _ _ hT1 (by show _ + 1 ≤ _; omega) W
                    have HA2 : Hid (∀ W, (binOp .add 9 (.string (txt T1)) (.string (txt xr))).run Tryz.prog W = .ok (.string (txt T2)) W) := fun W => add_txt _ _ _ (by rw [txt_list, txt_list]; exact hT2) (by rw [txt_size, txt_size]; omega) W
                    have HWD := Lib.hid (HWr.out.below ((Below.refl _ _).drew))
                    have hcy := own_last HWr.out.own h0
                    have hfy := own_frozen HWr.out.own (init.length * 2 + 1)
                    rw [hj] at hcy hfy
                    have HW12 := Lib.hid (HWD.out.set2 h0 (txt T2) HCB9.out (Nat.le_of_eq HB9.out))
                    rw [hj] at HW12
                    have HM2 : Hid ((init ++ [(y.1, txt T2)]).length = m) := by show _ = _; rw [List.length_append, hj, hmj]; rfl
                    have HX29 := Lib.hid hx29
                    have HXC := Lib.hid hcx
                    clear h0 hj hmj hmn hT1 hT2 hst hys hex2 hsz2 l1 hxl
                    go_wp2_with (first
                      | refine wpList_eql (by rfl) .neq 9 _ _ _ rfl (.string (txt (32 :: xr))) (.string ⟨#[]⟩) rfl rfl (.bool true) (guard_strn _ _ _ _) HNE.out ?_)
                    refine wp_region_noPanic ?_
                    refine wp_region_held_drew (S := fun W => W.cell? ⟨cb, 29, none⟩ = some (.slice (some ⟨g, 0, none⟩) m xc) ∧ W.cell? ⟨lb, k, none⟩ = some (.string (txt (32 :: xr)))) (by kernel_rfl) ?_ (fun hHeld => ?_)
                    · exact ⟨HX29.out, HXC.out⟩
                    refine wpAnyH_take (i := 0) (v := ?_) (by simp only [List.getElem?_toArray, List.getElem?_cons_zero]; rfl) (by kernel_rfl) (by kernel_rfl) (by kernel_rfl) (fun _ _ _ h => h) (Or.inl ⟨by rfl, ?_⟩) (by assumption) ?_
                    rotate_left
                    · intro W hSW
                      go_simp
                      try with_reducible rfl
                    try simp only [Act.put, List.setIfInBounds_toArray, List.set_cons_zero, List.set_cons_succ]
                    refine wpAnyH_take (i := 1) (by simp only [List.getElem?_toArray, List.getElem?_cons_succ, List.getElem?_cons_zero]; rfl) (by kernel_rfl) (by kernel_rfl) (by kernel_rfl) (fun _ _ _ h => h) (yieldsIf_load_sl (by rfl) 26 _ rfl cb 29 rfl (.slice (some ⟨g, 0, none⟩) m xc) (fun W h => h.1) Tryz.underlying26) (by assumption) ?_
                    try simp only [Act.put, List.setIfInBounds_toArray, List.set_cons_zero, List.set_cons_succ]
                    refine wpAnyH_take (i := 2) (v := ?_) (by simp only [List.getElem?_toArray, List.getElem?_cons_succ, List.getElem?_cons_zero]; rfl) (by kernel_rfl) (by kernel_rfl) (by kernel_rfl) (fun _ _ _ h => h) (Or.inl ⟨by rfl, ?_⟩) (by assumption) ?_
                    rotate_left
                    · intro W hSW
                      go_simp
                      try with_reducible rfl
                    try simp only [Act.put, List.setIfInBounds_toArray, List.set_cons_zero, List.set_cons_succ]
                    refine wpAnyH_take (i := 3) (v := ?_) (by simp only [List.getElem?_toArray, List.getElem?_cons_succ, List.getElem?_cons_zero]; rfl) (by kernel_rfl) (by kernel_rfl) (by kernel_rfl) (fun _ _ _ h => h) (Or.inl ⟨by rfl, ?_⟩) (by assumption) ?_
                    rotate_left
                    · intro W hSW
                      go_simp
                      try with_reducible rfl
                    try simp only [Act.put, List.setIfInBounds_toArray, List.set_cons_zero, List.set_cons_succ]
                    refine wpAnyH_take (i := 4) (by simp only [List.getElem?_toArray, List.getElem?_cons_succ, List.getElem?_cons_zero]; rfl) (by kernel_rfl) (by kernel_rfl) (by kernel_rfl) (fun _ _ _ h => h) (yieldsIf_load_sl (by rfl) 26 _ rfl cb 29 rfl (.slice (some ⟨g, 0, none⟩) m xc) (fun W h => h.1) Tryz.underlying26) (by assumption) ?_
                    try simp only [Act.put, List.setIfInBounds_toArray, List.set_cons_zero, List.set_cons_succ]
                    refine wpAnyH_take (i := 5) (v := ?_) (by simp only [List.getElem?_toArray, List.getElem?_cons_succ, List.getElem?_cons_zero]; rfl) (by kernel_rfl) (by kernel_rfl) (by kernel_rfl) (fun _ _ _ h => h) (Or.inl ⟨by rfl, ?_⟩) (by assumption) ?_
                    rotate_left
                    · intro W hSW
                      go_simp
                      try with_reducible rfl
                    try simp only [Act.put, List.setIfInBounds_toArray, List.set_cons_zero, List.set_cons_succ]
                    refine wpAnyH_take (i := 6) (v := ?_) (by simp only [List.getElem?_toArray, List.getElem?_cons_succ, List.getElem?_cons_zero]; rfl) (by kernel_rfl) (by kernel_rfl) (by kernel_rfl) (fun _ _ _ h => h) (Or.inl ⟨by rfl, ?_⟩) (by assumption) ?_
                    rotate_left
                    · intro W hSW
                      go_simp
                      try with_reducible rfl
                    try simp only [Act.put, List.setIfInBounds_toArray, List.set_cons_zero, List.set_cons_succ]
                    refine wpAnyH_take (i := 7) (v := ?_) (by simp only [List.getElem?_toArray, List.getElem?_cons_succ, List.getElem?_cons_zero]; rfl) (by kernel_rfl) (by kernel_rfl) (by kernel_rfl) (fun _ _ _ h => h) (Or.inl ⟨by rfl, ?_⟩) (by assumption) ?_
                    rotate_left
                    · intro W hSW
                      go_simp
                      try with_reducible rfl
                    try simp only [Act.put, List.setIfInBounds_toArray, List.set_cons_zero, List.set_cons_succ]
                    refine wpAnyH_take (i := 10) (v := ?_) (by simp only [List.getElem?_toArray, List.getElem?_cons_succ, List.getElem?_cons_zero]; rfl) (by kernel_rfl) (by kernel_rfl) (by kernel_rfl) (fun _ _ _ h => h) (Or.inl ⟨by rfl, ?_⟩) (by assumption) ?_
                    rotate_left
                    · intro W hSW
                      go_simp
                      try with_reducible rfl
                    try simp only [Act.put, List.setIfInBounds_toArray, List.set_cons_zero, List.set_cons_succ]
                    refine wpAnyH_take (i := 11) (v := ?_) (by simp only [List.getElem?_toArray, List.getElem?_cons_succ, List.getElem?_cons_zero]; rfl) (by kernel_rfl) (by kernel_rfl) (by kernel_rfl) (fun _ _ _ h => h) (Or.inl ⟨by rfl, ?_⟩) (by assumption) ?_
                    rotate_left
                    · intro W hSW
                      go_simp
                      try with_reducible rfl
                    try simp only [Act.put, List.setIfInBounds_toArray, List.set_cons_zero, List.set_cons_succ]
                    refine wpAnyH_take (i := 12) (v := ?_) (by simp only [List.getElem?_toArray, List.getElem?_cons_succ, List.getElem?_cons_zero]; rfl) (by kernel_rfl) (by kernel_rfl) (by kernel_rfl) (fun _ _ _ h => h) (Or.inl ⟨by rfl, ?_⟩) (by assumption) ?_
                    rotate_left
                    · intro W hSW
                      go_simp
                      try with_reducible rfl
                    try simp only [Act.put, List.setIfInBounds_toArray, List.set_cons_zero, List.set_cons_succ]
                    refine wpAnyH_take (i := 13) (by simp only [List.getElem?_toArray, List.getElem?_cons_succ, List.getElem?_cons_zero]; rfl) (by kernel_rfl) (by kernel_rfl) (by kernel_rfl) (fun _ _ _ h => h) (yieldsIf_load_str (by rfl) 9 _ rfl lb k rfl (txt (32 :: xr)) (fun W h => h.2) Tryz.underlying9) (by assumption) ?_
                    try simp only [Act.put, List.setIfInBounds_toArray, List.set_cons_zero, List.set_cons_succ]
                    refine wpAnyH_take (i := 14) (v := ?_) (by simp only [List.getElem?_toArray, List.getElem?_cons_succ, List.getElem?_cons_zero]; rfl) (by kernel_rfl) (by kernel_rfl) (by kernel_rfl) (fun _ _ _ h => h) (Or.inl ⟨by rfl, ?_⟩) (by assumption) ?_
                    rotate_left
                    · intro W hSW
                      go_simp
                      try with_reducible rfl
                    try simp only [Act.put, List.setIfInBounds_toArray, List.set_cons_zero, List.set_cons_succ]
                    refine wpAnyH_ready (rs := [8]) (by kernel_rfl) (by simp) ?_
                    refine AllReadyH.cons (by simp only [List.getElem?_toArray, List.getElem?_cons_succ, List.getElem?_cons_zero]; rfl) (fun K hK => ?_) AllReadyH.nil
                    go_simp
                    refine hK.out _ _ (⟨HX29.out, HXC.out⟩) (fun hHeld2 => ?_)
                    clear hK K hHeld
                    have hHeld := hHeld2
                    clear hHeld2
                    try simp only [Act.put, List.setIfInBounds_toArray, List.set_cons_zero, List.set_cons_succ]
                    refine wpAnyH_take (i := 9) (by simp only [List.getElem?_toArray, List.getElem?_cons_succ, List.getElem?_cons_zero]; rfl) (by kernel_rfl) (by kernel_rfl) (by kernel_rfl) (fun _ _ _ h => h) (yieldsIf_eql (by rfl) .add 9 _ _ _ rfl (.string y.2) (.string ⟨#[10]⟩) rfl rfl (.string (txt T1)) (guard_addn _ _ _ _) HA1.out) (by assumption) ?_
                    try simp only [Act.put, List.setIfInBounds_toArray, List.set_cons_zero, List.set_cons_succ]
                    refine wpAnyH_take (i := 15) (by simp only [List.getElem?_toArray, List.getElem?_cons_succ, List.getElem?_cons_zero]; rfl) (by kernel_rfl) (by kernel_rfl) (by kernel_rfl) (fun _ _ _ h => h) (yieldsIf_eql (by rfl) .add 9 _ _ _ rfl (.string (txt T1)) (.string (txt xr)) rfl rfl (.string (txt T2)) (guard_addn _ _ _ _) HA2.out) (by assumption) ?_
                    try simp only [Act.put, List.setIfInBounds_toArray, List.set_cons_zero, List.set_cons_succ]
                    refine wpAnyH_take (i := 16) (v := ?_) (by simp only [List.getElem?_toArray, List.getElem?_cons_succ, List.getElem?_cons_zero]; rfl) (by kernel_rfl) (by kernel_rfl) (by kernel_rfl) (fun _ _ _ h => h) (Or.inl ⟨by rfl, ?_⟩) (by assumption) ?_
                    rotate_left
                    · intro W hSW
                      go_simp
                      try with_reducible rfl
                    try simp only [Act.put, List.setIfInBounds_toArray, List.set_cons_zero, List.set_cons_succ]
                    refine wpAnyH_take (i := 17) (v := ?_) (by simp only [List.getElem?_toArray, List.getElem?_cons_succ, List.getElem?_cons_zero]; rfl) (by kernel_rfl) (by kernel_rfl) (by kernel_rfl) (fun _ _ _ h => h) (Or.inl ⟨by rfl, ?_⟩) (by assumption) ?_
                    rotate_left
                    · intro W hSW
                      go_simp
                      try with_reducible rfl
                    try simp only [Act.put, List.setIfInBounds_toArray, List.set_cons_zero, List.set_cons_succ]
                    refine wpAnyH_ready (rs := [18]) (by kernel_rfl) (by simp) ?_
                    refine AllReadyH.cons (by simp only [List.getElem?_toArray, List.getElem?_cons_succ, List.getElem?_cons_zero]; rfl) (fun K hK => ?_) AllReadyH.nil
                    go_simp
                    refine hK.out _ _ (⟨(CoRow.of HW12.out.co HTR.out).exts, HFL9.out _ HW12.out.fr k _ HX.out⟩) (fun hHeld2 => ?_)
                    clear hK K hHeld
                    have hHeld := hHeld2
                    clear hHeld2
                    try simp only [Act.put, List.setIfInBounds_toArray, List.set_cons_zero, List.set_cons_succ]
                    refine wpAnyH_done (by kernel_rfl) ?_ _
                    refine NoPanic.normal ?_
                    go_wp2_with fail
                    exact ⟨⟨k + 1, some ⟨g, 0, none⟩, xc, m, init ++ [(y.1, txt T2)], by first | rw [WK.out _ rfl] | rfl, HKN.out, HM2.out, by have := HMK.out; omega, HST.out.1, HST.out.2, HW12.out⟩, by have := HKN.out; (first | rw [WK.out _ rfl] | skip); simp [intOf]; omega⟩
                · have hi32 : ¬ ((c0.toNat : Nat) : Int) = 32 := fun h => h32 (UInt8.toNat_inj.1 (by show c0.toNat = 32; omega))
                  have hb32 : (((c0.toNat : Nat) : Int) == 32) = false := beq_eq_false_iff_ne.2 hi32
                  have hst : extStep xs (c0 :: xr) = xs ++ [(txt (Lib.cut (c0 :: xr) [32]).1, txt (Lib.cut (c0 :: xr) [32]).2.1)] := if_neg fun h => h32 (by have := h.1; simpa using this)
                  rw [hst] at hex2 hsz2
                  have HST := Lib.hid (And.intro hex2 hsz2)
                  clear hst hex2 hsz2 h32
                  generalize ((c0.toNat : Nat) : Int) = ci at *
                  generalize c0 :: xr = x at *
                  go_wp2_with (first
                    | refine wpList_eql (by rfl) .neq 9 _ _ _ rfl (.string (txt x)) (.string ⟨#[]⟩) rfl rfl (.bool true) (guard_strn _ _ _ _) HNE.out ?_)
                  refine (rcut_any x 32 wr (by have := HXL.out; omega)).mono ?_
                  rintro e w10 ⟨rfl, hb⟩
                  have HW10 := Lib.hid (HWr.out.below hb)
                  clear hb hx29 hcx HWr
                  obtain ⟨K2, hK2⟩ : ∃ s, txt (Lib.cut x [32]).1 = s := ⟨_, rfl⟩
                  obtain ⟨V2, hV2⟩ : ∃ s, txt (Lib.cut x [32]).2.1 = s := ⟨_, rfl⟩
                  rw [hK2, hV2] at HST ⊢
                  clear hK2 hV2
                  have hcp := (CoRow.of HW10.out.co HTR.out).exts
                  have hfp := frozen_of_row _ cb 29 _ _ HW10.out.co
                  go_upto_region 22 with fail
                  have HBX : Hid (Below w10.heap.size w10 (w10.alloc (.cells (extE (K2, V2)).toArray 75))) := (Below.refl _ _).alloc (Nat.le_refl _) _
                  have HOA : Hid (OwnG 2 extE 75 (w10.alloc (.cells (extE (K2, V2)).toArray 75)) B9 (.slice xa m xc) xs) := HW10.out.own.below HBX.out
                  have HBS : Hid (B9 ≤ (w10.alloc (.cells (extE (K2, V2)).toArray 75)).heap.size) := Nat.le_trans HW10.out.sz HBX.out.size
                  have HDN2 : Hid ((xs ++ [(K2, V2)]).length = m + 1) := by show _ = _; rw [List.length_append, HM.out]; rfl
                  go_wp2_with (first
                    | refine wpList_buildQ rfl 75 _ rfl #[(0, .string K2), (1, .string V2)] (map_two _ _ _ _ _ rfl rfl) _ (build_rext K2 V2) ?_
                    | refine wpList_slice rfl 26 1 #[(0, _)] rfl #[(0, .agg (extE (K2, V2)).toArray)] (map_one _ _ _ rfl) _ _ (slice_G1 elem_rext (by decide) (by decide) (by decide) extE_len (K2, V2) (.agg (extE (K2, V2)).toArray) rfl w10) ?_
                    | (refine wpList_append_G elem_rext extE_len (by decide) (by decide) extE_one rfl _ _ rfl B9 (.slice xa m xc) xs m HM.out rfl HOA.out w10.heap.size 0 1 1 [(K2, V2)] rfl (by decide) rfl (one_G w10 75 (K2, V2)) (m + 1) (xs ++ [(K2, V2)]) rfl rfl (by have := HMK.out; have := HKN.out; have := HNB.out; omega) HBS.out ?_
                       rintro g2 gc2 w12 ho7 hg7 hgg hgl
                       have HW12 := Lib.hid (HW10.out.append HBX.out HOA.out hg7 ho7 HCB9.out (Nat.le_of_eq HB9.out))
                       clear ho7 hg7 hgg hgl hcp hfp
                       have hcp := (CoRow.of HW12.out.co HTR.out).exts
                       have hfp := frozen_of_row _ cb 29 _ _ HW12.out.co))
                  exact ⟨⟨k + 1, some ⟨g2, 0, none⟩, gc2, m + 1, xs ++ [(K2, V2)], by first | rw [WK.out _ rfl] | rfl, HKN.out, HDN2.out, by have := HMK.out; omega, HST.out.1, HST.out.2, HW12.out.cell 29 _ { cz with tr := tr, a := WA, c := WC } HTR.out (by rw [coA_set _ _ _ HTR.out 9]; rfl) HCB9.out⟩, by have := HKN.out; (first | rw [WK.out _ rfl] | skip); simp [intOf]; omega⟩
            · have hki : ¬ (k : Int) < (n : Int) := by omega
              have HND : Hid (xs = E1 ∧ l.drop k = E2) := by
                have hd : l.drop k = [] := List.drop_eq_nil_of_le (by rw [HN.out]; omega)
                rw [hd] at hex ⊢
                have h2 : ((xs, []) : List (ByteArray × ByteArray) × List (List UInt8)) = (E1, E2) := hex
                simp only [Prod.mk.injEq] at h2
                exact h2
              have HKL := Lib.hid hk
              clear hkn hk hex hsz
              go_wp2_with fail
              go_meet
              have h1 := HWr.out
              have h2 := HM.out
              obtain ⟨h3, h4⟩ := HND.out
              subst h3
              subst h2
              exact ⟨k, xa, xc, rfl, HKL.out, h4, h1⟩
        case rest =>
          obtain ⟨q, xa, xc, rfl, hk4, hdr4, hw4⟩ := hcut
          clear HK HDR HX0'
          have HK := Lib.hid hk4
          have HDR := Lib.hid hdr4
          have HW4 := Lib.hid hw4
          clear hk4 hdr4 hw4
          generalize wc = w11 at *
          have WQ := Lib.hid (next_int q (by have := HNB.out; have := HK.out; omega))
          go_upto_block 4 with fail
          go_cut [] from 13 (fun wx => RS 2 extE 75 w9 cb B9 wx { tr := tr, ps := cz.ps, a := WA, c := WC, xs := cz.xs, m := txt (joinL (E2.drop 1)) } (.slice pa P1.length pc) (.slice xa E1.length xc) (.slice xa E1.length xc) E1)
          case first =>
            go_wp2_with fail
            go_loopw [12] (fun i wr => ∃ (j t : Nat), i = .int .i64 (j : Int) ∧ j = q + 1 + t ∧ j ≤ n + 1 ∧ RS 2 extE 75 w9 cb B9 wr { tr := tr, ps := cz.ps, a := WA, c := WC, xs := cz.xs, m := txt (joinL ((l.drop (q + 1)).take t)) } (.slice pa P1.length pc) (.slice xa E1.length xc) (.slice xa E1.length xc) E1) (fun i _ => n - (intOf i).toNat)
            case atStart => exact ⟨q + 1, 0, by first | rw [WQ.out _ rfl] | rfl, rfl, by have := HK.out; omega, HW4.out⟩
            case round =>
              obtain ⟨j, t, rfl, hj, hjl, hw⟩ := hrel
              have HJ := Lib.hid hj
              have HWr := Lib.hid hw
              have WK := Lib.hid (next_int j (by have := HNB.out; omega))
              have hmsg := (CoRow.of hw.co HTR.out).msg
              have hfm := frozen_of_row _ cb 30 _ _ hw.co
              have HML : Hid ((joinL ((l.drop (q + 1)).take t)).length ≤ 2001) := by
                have h1 := join_len ((l.drop (q + 1)).take t)
                have h2 := sum_take (l.drop (q + 1)) t
                have h3 := sum_drop l (q + 1)
                have h4 := HSL.out
                show _ ≤ _; omega
              clear hw
              by_cases hjn : j < n
              · have hji : (j : Int) < (n : Int) := by omega
                have HKN : Hid (j + 1 ≤ n) := hjn
                obtain ⟨x, hx⟩ : ∃ x, l[j]? = some x := ⟨_, List.getElem?_eq_getElem (by rw [HN.out]; exact hjn)⟩
                have HX := Lib.hid hx
                have HXL := Lib.hid (HLL.out j x hx)
                have hcx := HFL9.out wr HWr.out.fr j x hx
                have HXC := Lib.hid hcx
                have hdx : (l.drop (q + 1))[t]? = some x := by rw [List.getElem?_drop, ← hj]; exact hx
                have HJ2 : Hid (j + 1 = q + 1 + (t + 1)) := by show _ = _; omega
                have HJ3 : Hid (j + 1 ≤ n + 1) := by show _ ≤ _; omega
                by_cases ht : t = 0
                · subst ht
                  have hng : ¬ wrap64 ((q : Int) + 1) < (j : Int) := by rw [WQ.out _ rfl]; omega
                  have HM1 : Hid (joinL ((l.drop (q + 1)).take (0 + 1)) = x) := join_first hdx
                  have HA1 : Hid (∀ W, (binOp .add 9 (.string (txt [])) (.string (txt x))).run Tryz.prog W = .ok (.string (txt x)) W) := fun W => add_txt _ _ _ (by rw [txt_list, txt_list]; rfl) (by rw [txt_size, txt_size]; have := HXL.out; simp only [List.length_nil]; omega) W
                  have hms2 : wr.cell? ⟨cb, 30, none⟩ = some (.string (txt [])) := hmsg
                  have HWD := Lib.hid (HWr.out.below ((Below.refl _ _).drew))
                  have HW12 : Hid (RS 2 extE 75 w9 cb B9 (wr.drew.setCell ⟨cb, 30, none⟩ (.string (txt x))) { tr := tr, ps := cz.ps, a := WA, c := WC, xs := cz.xs, m := txt (joinL ((l.drop (q + 1)).take (0 + 1))) } (.slice pa P1.length pc) (.slice xa E1.length xc) (.slice xa E1.length xc) E1) := by
                    show RS _ _ _ _ _ _ _ _ _ _ _ _
                    rw [HM1.out]
                    exact HWD.out.cell 30 _ _ HTR.out (by rw [coA_set _ _ _ HTR.out 10]; rfl) HCB9.out
                  clear hmsg hx hdx hjn hj hjl
                  go_wp2_with fail
                  refine wp_region_noPanic ?_
                  refine wp_region_held_drew (S := fun W => W.cell? ⟨lb, j, none⟩ = some (.string (txt x))) (by kernel_rfl) ?_ (fun hHeld => ?_)
                  · exact HXC.out
                  refine wpAnyH_take (i := 0) (v := ?_) (by simp only [List.getElem?_toArray, List.getElem?_cons_zero]; rfl) (by kernel_rfl) (by kernel_rfl) (by kernel_rfl) (fun _ _ _ h => h) (Or.inl ⟨by rfl, ?_⟩) (by assumption) ?_
                  rotate_left
                  · intro W hSW
                    go_simp
                    try with_reducible rfl
                  try simp only [Act.put, List.setIfInBounds_toArray, List.set_cons_zero, List.set_cons_succ]
                  refine wpAnyH_take (i := 2) (v := ?_) (by simp only [List.getElem?_toArray, List.getElem?_cons_succ, List.getElem?_cons_zero]; rfl) (by kernel_rfl) (by kernel_rfl) (by kernel_rfl) (fun _ _ _ h => h) (Or.inl ⟨by rfl, ?_⟩) (by assumption) ?_
                  rotate_left
                  · intro W hSW
                    go_simp
                    try with_reducible rfl
                  try simp only [Act.put, List.setIfInBounds_toArray, List.set_cons_zero, List.set_cons_succ]
                  refine wpAnyH_take (i := 3) (v := ?_) (by simp only [List.getElem?_toArray, List.getElem?_cons_succ, List.getElem?_cons_zero]; rfl) (by kernel_rfl) (by kernel_rfl) (by kernel_rfl) (fun _ _ _ h => h) (Or.inl ⟨by rfl, ?_⟩) (by assumption) ?_
                  rotate_left
                  · intro W hSW
                    go_simp
                    try with_reducible rfl
                  try simp only [Act.put, List.setIfInBounds_toArray, List.set_cons_zero, List.set_cons_succ]
                  refine wpAnyH_take (i := 4) (v := ?_) (by simp only [List.getElem?_toArray, List.getElem?_cons_succ, List.getElem?_cons_zero]; rfl) (by kernel_rfl) (by kernel_rfl) (by kernel_rfl) (fun _ _ _ h => h) (Or.inl ⟨by rfl, ?_⟩) (by assumption) ?_
                  rotate_left
                  · intro W hSW
                    go_simp
                    try with_reducible rfl
                  try simp only [Act.put, List.setIfInBounds_toArray, List.set_cons_zero, List.set_cons_succ]
                  refine wpAnyH_take (i := 5) (by simp only [List.getElem?_toArray, List.getElem?_cons_succ, List.getElem?_cons_zero]; rfl) (by kernel_rfl) (by kernel_rfl) (by kernel_rfl) (fun _ _ _ h => h) (yieldsIf_load_str (by rfl) 9 _ rfl lb j rfl (txt x) (fun W h => h) Tryz.underlying9) (by assumption) ?_
                  try simp only [Act.put, List.setIfInBounds_toArray, List.set_cons_zero, List.set_cons_succ]
                  refine wpAnyH_ready (rs := [1]) (by kernel_rfl) (by simp) ?_
                  refine AllReadyH.cons (by simp only [List.getElem?_toArray, List.getElem?_cons_succ, List.getElem?_cons_zero]; rfl) (fun K hK => ?_) AllReadyH.nil
                  go_simp
                  refine hK.out _ _ (HXC.out) (fun hHeld2 => ?_)
                  clear hK K hHeld
                  have hHeld := hHeld2
                  clear hHeld2
                  try simp only [Act.put, List.setIfInBounds_toArray, List.set_cons_zero, List.set_cons_succ]
                  refine wpAnyH_take (i := 6) (by simp only [List.getElem?_toArray, List.getElem?_cons_succ, List.getElem?_cons_zero]; rfl) (by kernel_rfl) (by kernel_rfl) (by kernel_rfl) (fun _ _ _ h => h) (yieldsIf_eql (by rfl) .add 9 _ _ _ rfl (.string (txt [])) (.string (txt x)) rfl rfl (.string (txt x)) (guard_addn _ _ _ _) HA1.out) (by assumption) ?_
                  try simp only [Act.put, List.setIfInBounds_toArray, List.set_cons_zero, List.set_cons_succ]
                  refine wpAnyH_take (i := 7) (v := ?_) (by simp only [List.getElem?_toArray, List.getElem?_cons_succ, List.getElem?_cons_zero]; rfl) (by kernel_rfl) (by kernel_rfl) (by kernel_rfl) (fun _ _ _ h => h) (Or.inl ⟨by rfl, ?_⟩) (by assumption) ?_
                  rotate_left
                  · intro W hSW
                    go_simp
                    try with_reducible rfl
                  try simp only [Act.put, List.setIfInBounds_toArray, List.set_cons_zero, List.set_cons_succ]
                  refine wpAnyH_ready (rs := [8]) (by kernel_rfl) (by simp) ?_
                  refine AllReadyH.cons (by simp only [List.getElem?_toArray, List.getElem?_cons_succ, List.getElem?_cons_zero]; rfl) (fun K hK => ?_) AllReadyH.nil
                  go_simp
                  refine hK.out _ _ (HFL9.out _ HW12.out.fr j x HX.out) (fun hHeld2 => ?_)
                  clear hK K hHeld
                  have hHeld := hHeld2
                  clear hHeld2
                  try simp only [Act.put, List.setIfInBounds_toArray, List.set_cons_zero, List.set_cons_succ]
                  refine wpAnyH_done (by kernel_rfl) ?_ _
                  refine NoPanic.normal ?_
                  go_wp2_with fail
                  exact ⟨⟨j + 1, 0 + 1, by first | rw [WK.out _ rfl] | rfl, HJ2.out, HJ3.out, HW12.out⟩, by have := HKN.out; (first | rw [WK.out _ rfl] | skip); simp [intOf]; omega⟩
                · have hgt : wrap64 ((q : Int) + 1) < (j : Int) := by rw [WQ.out _ rfl]; omega
                  obtain ⟨M, hM⟩ : ∃ m, joinL ((l.drop (q + 1)).take t) = m := ⟨_, rfl⟩
                  have HM1 : Hid (joinL ((l.drop (q + 1)).take (t + 1)) = M ++ [10] ++ x) := by show _ = _; rw [join_step hdx ht, hM]
                  rw [hM] at hmsg HWr HML
                  obtain ⟨T1, hT1⟩ : ∃ m, M ++ [10] = m := ⟨_, rfl⟩
                  obtain ⟨T2, hT2⟩ : ∃ m, T1 ++ x = m := ⟨_, rfl⟩
                  rw [hT1, hT2] at HM1
                  have l1 : T1.length = M.length + 1 := by rw [← hT1, List.length_append]; rfl
                  have HA0 : Hid (∀ W, (binOp .add 9 (.string (txt M)) (.string ⟨#[10]⟩)).run Tryz.prog W = .ok (.string (txt T1)) W) := fun W => add_txt _ _ _ (by rw [txt_list]; exact hT1) (by rw [txt_size]; have := HML.out; show _ + 1 ≤ _; omega) W
                  have HA1 : Hid (∀ W, (binOp .add 9 (.string (txt T1)) (.string (txt x))).run Tryz.prog W = .ok (.string (txt T2)) W) := fun W => add_txt _ _ _ (by rw [txt_list, txt_list]; exact hT2) (by rw [txt_size, txt_size]; have := HXL.out; have := HML.out; omega) W
                  have HWy : Hid (RS 2 extE 75 w9 cb B9 (wr.setCell ⟨cb, 30, none⟩ (.string (txt T1))) { tr := tr, ps := cz.ps, a := WA, c := WC, xs := cz.xs, m := txt T1 } (.slice pa P1.length pc) (.slice xa E1.length xc) (.slice xa E1.length xc) E1) := HWr.out.cell 30 _ _ HTR.out (by rw [coA_set _ _ _ HTR.out 10]; rfl) HCB9.out
                  clear hx hdx hjn hj hjl hcx HXC hM hT1 hT2 l1
                  go_upto_region 29 with (first
                    | refine wpList_eql (by rfl) .add 9 _ _ _ rfl (.string (txt M)) (.string ⟨#[10]⟩) rfl rfl (.string (txt T1)) (guard_addn _ _ _ _) HA0.out ?_)
                  clear hmsg hfm
                  generalize wr.setCell ⟨cb, 30, none⟩ (.string (txt T1)) = wy at *
                  have hms2 := (CoRow.of HWy.out.co HTR.out).msg
                  have hfm := frozen_of_row _ cb 30 _ _ HWy.out.co
                  have hcx := HFL9.out wy HWy.out.fr j x HX.out
                  have HXC := Lib.hid hcx
                  have HWD := Lib.hid (HWy.out.below ((Below.refl _ _).drew))
                  have HW12 : Hid (RS 2 extE 75 w9 cb B9 (wy.drew.setCell ⟨cb, 30, none⟩ (.string (txt T2))) { tr := tr, ps := cz.ps, a := WA, c := WC, xs := cz.xs, m := txt (joinL ((l.drop (q + 1)).take (t + 1))) } (.slice pa P1.length pc) (.slice xa E1.length xc) (.slice xa E1.length xc) E1) := by
                    show RS _ _ _ _ _ _ _ _ _ _ _ _
                    rw [HM1.out]
                    exact HWD.out.cell 30 _ _ HTR.out (by rw [coA_set _ _ _ HTR.out 10]; rfl) HCB9.out
                  go_wp2_with fail
                  refine wp_region_noPanic ?_
                  refine wp_region_held_drew (S := fun W => W.cell? ⟨lb, j, none⟩ = some (.string (txt x))) (by kernel_rfl) ?_ (fun hHeld => ?_)
                  · exact HXC.out
                  refine wpAnyH_take (i := 0) (v := ?_) (by simp only [List.getElem?_toArray, List.getElem?_cons_zero]; rfl) (by kernel_rfl) (by kernel_rfl) (by kernel_rfl) (fun _ _ _ h => h) (Or.inl ⟨by rfl, ?_⟩) (by assumption) ?_
                  rotate_left
                  · intro W hSW
                    go_simp
                    try with_reducible rfl
                  try simp only [Act.put, List.setIfInBounds_toArray, List.set_cons_zero, List.set_cons_succ]
                  refine wpAnyH_take (i := 2) (v := ?_) (by simp only [List.getElem?_toArray, List.getElem?_cons_succ, List.getElem?_cons_zero]; rfl) (by kernel_rfl) (by kernel_rfl) (by kernel_rfl) (fun _ _ _ h => h) (Or.inl ⟨by rfl, ?_⟩) (by assumption) ?_
                  rotate_left
                  · intro W hSW
                    go_simp
                    try with_reducible rfl
                  try simp only [Act.put, List.setIfInBounds_toArray, List.set_cons_zero, List.set_cons_succ]
                  refine wpAnyH_take (i := 3) (v := ?_) (by simp only [List.getElem?_toArray, List.getElem?_cons_succ, List.getElem?_cons_zero]; rfl) (by kernel_rfl) (by kernel_rfl) (by kernel_rfl) (fun _ _ _ h => h) (Or.inl ⟨by rfl, ?_⟩) (by assumption) ?_
                  rotate_left
                  · intro W hSW
                    go_simp
                    try with_reducible rfl
                  try simp only [Act.put, List.setIfInBounds_toArray, List.set_cons_zero, List.set_cons_succ]
                  refine wpAnyH_take (i := 4) (v := ?_) (by simp only [List.getElem?_toArray, List.getElem?_cons_succ, List.getElem?_cons_zero]; rfl) (by kernel_rfl) (by kernel_rfl) (by kernel_rfl) (fun _ _ _ h => h) (Or.inl ⟨by rfl, ?_⟩) (by assumption) ?_
                  rotate_left
                  · intro W hSW
                    go_simp
                    try with_reducible rfl
                  try simp only [Act.put, List.setIfInBounds_toArray, List.set_cons_zero, List.set_cons_succ]
                  refine wpAnyH_take (i := 5) (by simp only [List.getElem?_toArray, List.getElem?_cons_succ, List.getElem?_cons_zero]; rfl) (by kernel_rfl) (by kernel_rfl) (by kernel_rfl) (fun _ _ _ h => h) (yieldsIf_load_str (by rfl) 9 _ rfl lb j rfl (txt x) (fun W h => h) Tryz.underlying9) (by assumption) ?_
                  try simp only [Act.put, List.setIfInBounds_toArray, List.set_cons_zero, List.set_cons_succ]
                  refine wpAnyH_ready (rs := [1]) (by kernel_rfl) (by simp) ?_
                  refine AllReadyH.cons (by simp only [List.getElem?_toArray, List.getElem?_cons_succ, List.getElem?_cons_zero]; rfl) (fun K hK => ?_) AllReadyH.nil
                  go_simp
                  refine hK.out _ _ (HXC.out) (fun hHeld2 => ?_)
                  clear hK K hHeld
                  have hHeld := hHeld2
                  clear hHeld2
                  try simp only [Act.put, List.setIfInBounds_toArray, List.set_cons_zero, List.set_cons_succ]
                  refine wpAnyH_take (i := 6) (by simp only [List.getElem?_toArray, List.getElem?_cons_succ, List.getElem?_cons_zero]; rfl) (by kernel_rfl) (by kernel_rfl) (by kernel_rfl) (fun _ _ _ h => h) (yieldsIf_eql (by rfl) .add 9 _ _ _ rfl (.string (txt T1)) (.string (txt x)) rfl rfl (.string (txt T2)) (guard_addn _ _ _ _) HA1.out) (by assumption) ?_
                  try simp only [Act.put, List.setIfInBounds_toArray, List.set_cons_zero, List.set_cons_succ]
                  refine wpAnyH_take (i := 7) (v := ?_) (by simp only [List.getElem?_toArray, List.getElem?_cons_succ, List.getElem?_cons_zero]; rfl) (by kernel_rfl) (by kernel_rfl) (by kernel_rfl) (fun _ _ _ h => h) (Or.inl ⟨by rfl, ?_⟩) (by assumption) ?_
                  rotate_left
                  · intro W hSW
                    go_simp
                    try with_reducible rfl
                  try simp only [Act.put, List.setIfInBounds_toArray, List.set_cons_zero, List.set_cons_succ]
                  refine wpAnyH_ready (rs := [8]) (by kernel_rfl) (by simp) ?_
                  refine AllReadyH.cons (by simp only [List.getElem?_toArray, List.getElem?_cons_succ, List.getElem?_cons_zero]; rfl) (fun K hK => ?_) AllReadyH.nil
                  go_simp
                  refine hK.out _ _ (HFL9.out _ HW12.out.fr j x HX.out) (fun hHeld2 => ?_)
                  clear hK K hHeld
                  have hHeld := hHeld2
                  clear hHeld2
                  try simp only [Act.put, List.setIfInBounds_toArray, List.set_cons_zero, List.set_cons_succ]
                  refine wpAnyH_done (by kernel_rfl) ?_ _
                  refine NoPanic.normal ?_
                  go_wp2_with fail
                  exact ⟨⟨j + 1, t + 1, by first | rw [WK.out _ rfl] | rfl, HJ2.out, HJ3.out, HW12.out⟩, by have := HKN.out; (first | rw [WK.out _ rfl] | skip); simp [intOf]; omega⟩
              · have hji : ¬ (j : Int) < (n : Int) := by omega
                have HTE : Hid (((l.drop (q + 1)).take t) = E2.drop 1) := by
                  show _ = _
                  rw [← HDR.out, List.drop_drop, List.take_of_length_le (by rw [List.length_drop, HN.out]; omega)]
                clear hjn hj hjl hmsg hfm
                go_wp2_with fail
                go_meet
                rw [← HTE.out]
                exact HWr.out
          case rest =>
            have HWf := Lib.hid hcut
            obtain ⟨hb1, hb2, hb3, hb4⟩ := HBND.out
            obtain ⟨hg1, hg2⟩ := HGOOD.out
            obtain ⟨R, hR⟩ : ∃ R : CC, R = ⟨tr, P1, WA, WC, E1, txt (joinL (E2.drop 1))⟩ := ⟨_, rfl⟩
            have hb1 : CoSmall R := by rw [hR]; exact hb1
            have hb2 : (printC R).length ≤ 1000000 := by rw [hR]; exact hb2
            have hg1 : R.tr.length = 20 ∧ ∀ x ∈ R.tr, 0 ≤ x ∧ x ≤ 255 := by rw [hR]; exact hg1
            have hg2 : ∀ p ∈ R.ps, p.length = 20 ∧ ∀ x ∈ p, 0 ≤ x ∧ x ≤ 255 := by rw [hR]; exact hg2
            have HPC : Hid (parseC L = if coR R = true ∧ printC R = L then some R else none) := by rw [hR]; exact HRP
            obtain ⟨hs1, hs2, hs3, hs4, hs5, hs6⟩ := hb1
            have HRE : Hid (P1.length = R.ps.length ∧ E1.length = R.xs.length) := by rw [hR]; exact ⟨rfl, rfl⟩
            have HWF : Hid (RS 2 extE 75 w9 cb B9 wc R (.slice pa R.ps.length pc) (.slice xa R.xs.length xc) (.slice xa R.xs.length xc) R.xs) := by
              have h := HWf.out
              rw [hR]
              exact ⟨h.fr, HTR.out, h.co, h.own, h.sz⟩
            have HOP : Hid (∀ W, FrR cb w9 W → RowAt 20 idE W pa R.ps) := fun W hW => by
              have h := ((HWc.out.own.frr hW HCB.out).fs idE_len).1
              rw [hR]
              exact h
            have HFR : Hid (∀ W, FrR cb w9 W → FrR cb w4 W) := fun W hW => HWc.out.fr.trans hW
            have HAT : Hid (∀ W, RS 2 extE 75 w9 cb B9 W R (.slice pa R.ps.length pc) (.slice xa R.xs.length xc) (.slice xa R.xs.length xc) R.xs → CoAt W R pa xa) := fun W h => ⟨h.h20, hg1.2, hg2, HOP.out W h.fr, (h.own.fs extE_len).1⟩
            have HRZ : Hid (R.ps.length ≤ 1000000 ∧ R.xs.length ≤ 1000000 ∧ (∀ x ∈ R.xs, x.1.size ≤ 1000000) ∧ (∀ x ∈ R.xs, x.2.size ≤ 1000000)) := ⟨by omega, by omega, fun x hx => by have := (hs5 x hx).1; omega, fun x hx => by have := (hs5 x hx).2; omega⟩
            have HSA := Lib.hid hs1
            have HSC := Lib.hid hs2
            have HPL := Lib.hid hb2
            have H20 := Lib.hid hg1.1
            clear HWf hcut HRE hR hg1 hg2 hs1 hs2 hs3 hs4 hs5 hs6 hb2 hb3 hb4 HK HDR HW4 HRP HBND HGOOD
            have HIC : Hid ((Tryz.prog.info? 28).map (·.size) = some (coL R (.slice pa R.ps.length pc) (.slice xa R.xs.length xc)).length) := info_rco R _ _ H20.out
            have HICA : Hid ((Tryz.prog.info? 28).map (·.size) = some (coA R (.slice pa R.ps.length pc) (.slice xa R.xs.length xc)).size) := info_rcoA R _ _ H20.out
            have HICZ : Hid ((Tryz.prog.info? 28).map (·.size) = some (coA cz (.slice none 0 0) (.slice none 0 0)).size) := info_rcoA cz _ _ cz_20
            have HOZ : Hid ((coA cz (.slice none 0 0) (.slice none 0 0)).all (·.oneCell') = true) := coA_one cz _ _ rfl rfl
            have HOC : Hid ((coA R (.slice pa R.ps.length pc) (.slice xa R.xs.length xc)).all (·.oneCell') = true) := coA_one R _ _ rfl rfl
            have HSCZ : Hid ((coA cz (.slice none 0 0) (.slice none 0 0)).size = (coA R (.slice pa R.ps.length pc) (.slice xa R.xs.length xc)).size) := by show _ = _; rw [coA_size _ _ _ cz_20, coA_size R _ _ H20.out]
            have hrt := rright_any R pa pc xa xc wc H20.out (HAT.out wc HWF.out).exts HRZ.out.2.1 HRZ.out.2.2.1 HSA.out HSC.out
            obtain ⟨v, hv⟩ : ∃ v, coR R = v := ⟨_, rfl⟩
            rw [hv] at hrt HPC
            have HRT := Lib.hid hrt
            clear hrt hv
            go_wp2_with (first
              | (refine wpList_load_mid_g rfl 28 _ rfl cb 0 rfl (coL R (.slice pa R.ps.length pc) (.slice xa R.xs.length xc)) _ (CoRow.of HWF.out.co H20.out).cells Tryz.underlying28 rfl HIC.out ?_))
            refine HRT.out.mono ?_
            rintro e w13 ⟨rfl, hb⟩
            have HWG := Lib.hid (HWF.out.below hb)
            clear hb HWF HRT
            cases v
            · have HPN : Hid (parseC L = none) := by show _ = _; rw [HPC.out, if_neg (fun h => by cases h.1)]
              have HZZ := Lib.hid (HFZ.out _ (HFR.out _ HWG.out.fr))
              go_wp2_with (first
                | refine wpList_buildQ rfl 28 _ rfl #[] (by rfl) _ build_rcoz ?_
                | refine wpList_store_row rfl 28 _ _ rfl w.heap.size (coA cz (.slice none 0 0) (.slice none 0 0)) rfl rfl 28 (coA cz (.slice none 0 0) (.slice none 0 0)) HZZ.out HICZ.out rfl HOZ.out ?_)
              refine bodyPost_ret (results_row_tmp Tryz.results16 _ _ w.heap.size 28 (coA cz (.slice none 0 0) (.slice none 0 0)) (0, 0) _ rfl (setRow_heap _ _ _ _ _ _ HZZ.out) Tryz.underlying28 rfl HICZ.out) rfl ⟨?_, ?_⟩
              · rw [HPN.out]; exact rfl
              · exact below_setRow (HFB.out _ (HFR.out _ HWG.out.fr)) (Nat.le_refl _) _
            · have hpr := rprint_any R pa pc xa xc w13 (HAT.out w13 HWG.out) (HE.out.below (HFB.out _ (HFR.out _ HWG.out.fr))) HSA.out HSC.out HPL.out HRZ.out.1 HRZ.out.2.1 HRZ.out.2.2.2
              have HPR := Lib.hid hpr
              obtain ⟨u, hu⟩ : ∃ u, (printC R == L) = u := ⟨_, rfl⟩
              have HNE : Hid (∀ W, (binOp .neq 9 (.string (txt (printC R))) (.string (txt L))).run Tryz.prog W = .ok (.bool (!u)) W) := fun W => by rw [str_neq, txt_list, txt_list, hu]
              clear hpr
              go_wp2_with (first
                | (refine wpList_load_mid_g rfl 28 _ rfl cb 0 rfl (coL R (.slice pa R.ps.length pc) (.slice xa R.xs.length xc)) _ (CoRow.of HWG.out.co H20.out).cells Tryz.underlying28 rfl HIC.out ?_))
              refine HPR.out.mono ?_
              rintro e w14 ⟨rfl, hb⟩
              have HWH := Lib.hid (HWG.out.below hb)
              have HZZ := Lib.hid (HFZ.out _ (HFR.out _ HWH.out.fr))
              clear hb HWG HPR
              cases u
              · have HPN : Hid (parseC L = none) := by show _ = _; rw [HPC.out, if_neg (fun h => by rw [h.2] at hu; simp at hu)]
                clear hu
                go_wp2_with (first
                  | refine wpList_eql (by rfl) .neq 9 _ _ _ rfl (.string (txt (printC R))) (.string (txt L)) rfl rfl (.bool true) (guard_strn _ _ _ _) HNE.out ?_
                  | refine wpList_buildQ rfl 28 _ rfl #[] (by rfl) _ build_rcoz ?_
                  | refine wpList_store_row rfl 28 _ _ rfl w.heap.size (coA cz (.slice none 0 0) (.slice none 0 0)) rfl rfl 28 (coA cz (.slice none 0 0) (.slice none 0 0)) HZZ.out HICZ.out rfl HOZ.out ?_)
                refine bodyPost_ret (results_row_tmp Tryz.results16 _ _ w.heap.size 28 (coA cz (.slice none 0 0) (.slice none 0 0)) (0, 0) _ rfl (setRow_heap _ _ _ _ _ _ HZZ.out) Tryz.underlying28 rfl HICZ.out) rfl ⟨?_, ?_⟩
                · rw [HPN.out]; exact rfl
                · exact below_setRow (HFB.out _ (HFR.out _ HWH.out.fr)) (Nat.le_refl _) _
              · have HPN : Hid (parseC L = some R) := by show _ = _; rw [HPC.out, if_pos (by simpa using hu)]
                clear hu
                go_wp2_with (first
                  | refine wpList_eql (by rfl) .neq 9 _ _ _ rfl (.string (txt (printC R))) (.string (txt L)) rfl rfl (.bool false) (guard_strn _ _ _ _) HNE.out ?_
                  | (refine wpList_load_mid_g rfl 28 _ rfl cb 0 rfl (coL R (.slice pa R.ps.length pc) (.slice xa R.xs.length xc)) _ (CoRow.of HWH.out.co H20.out).cells Tryz.underlying28 rfl HIC.out ?_)
                  | refine wpList_store_row rfl 28 _ _ rfl w.heap.size (coA R (.slice pa R.ps.length pc) (.slice xa R.xs.length xc)) rfl rfl 28 (coA cz (.slice none 0 0) (.slice none 0 0)) HZZ.out HICA.out HSCZ.out HOC.out ?_)
                refine bodyPost_ret (results_row_tmp Tryz.results16 _ _ w.heap.size 28 (coA R (.slice pa R.ps.length pc) (.slice xa R.xs.length xc)) (0, 0) _ rfl (setRow_heap _ _ _ _ _ _ HZZ.out) Tryz.underlying28 rfl HICA.out) rfl ⟨?_, ?_⟩
                · rw [HPN.out]
                  have hat := HAT.out w14 HWH.out
                  refine ⟨pa, pc, xa, xc, rfl, ⟨hat.n20, hat.byt, hat.ids, ?_, ?_⟩⟩
                  · exact rowat_setRow hat.pars fun b' off he _ => by
                      subst he
                      have h1 := HWc.out.own.base rfl
                      have h2 := HCB.out
                      have h3 := HSZ.out
                      omega
                  · exact rowat_setRow hat.exts fun b' off he _ => by
                      subst he
                      have h1 := HWH.out.own.base rfl
                      have h2 := HCB9.out
                      have h3 := HSZ.out
                      omega
                · exact below_setRow (HFB.out _ (HFR.out _ HWH.out.fr)) (Nat.le_refl _) _
end Go.Proofs.YtindmggmblmmcaaGreatDoor
