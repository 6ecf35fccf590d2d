/- Parts of a change's text: a line, an id, a number, a value: the walks. -/
import Derived.Test.YthokcdjmhhlcdaaGreatDoorChPrint
namespace Go.Proofs.YthokcdjmhhlcdaaGreatDoor
open Go.RowKit Go.Shelf Plain
set_option linter.unusedVariables false
set_option linter.unusedSimpArgs false
/-- Nothing that lay there is changed, but for one block. -/
structure FrR (r : Nat) (w w' : World) : Prop where
  os : w'.os = w.os
  tape : w'.tape = w.tape
  output : w'.output = w.output
  size : w.heap.size ≤ w'.heap.size
  block : ∀ k, k < w.heap.size → k ≠ r → w'.heap[k]? = w.heap[k]?
theorem FrR.below {r B : Nat} {w w' : World} (h : FrR r w w') (hr : B ≤ r) (hB : B ≤ w.heap.size) : Below B w w' := ⟨h.os, h.tape, h.output, h.size, fun k hk => h.block k (by omega) (by omega)⟩
theorem FrR.of {r : Nat} {w w' : World} (h : Below w.heap.size w w') : FrR r w w' := ⟨h.os, h.tape, h.output, h.size, fun k hk _ => h.block k hk⟩
theorem FrR.trans {r : Nat} {a b c : World} (h1 : FrR r a b) (h2 : FrR r b c) : FrR r a c := ⟨h2.os.trans h1.os, h2.tape.trans h1.tape, h2.output.trans h1.output, Nat.le_trans h1.size h2.size, fun k hk hn => (h2.block k (Nat.lt_of_lt_of_le hk h1.size) hn).trans (h1.block k hk hn)⟩
theorem FrR.setCell (r o : Nat) (v : Value) (w : World) : FrR r w (w.setCell ⟨r, o, none⟩ v) := ⟨rfl, rfl, rfl, by simp [World.setCell], fun k hk hn => heap_setCell_ne w ⟨r, o, none⟩ v k hn⟩
theorem FrR.refl (r : Nat) (w : World) : FrR r w w := ⟨rfl, rfl, rfl, Nat.le_refl _, fun _ _ _ => rfl⟩
/-- What is left to be read. -/
def RdAt (w : World) (r : Nat) (l : List UInt8) : Prop := w.heap[r]? = some (.cells #[.string (txt l)] 59 (0, 0))
theorem RdAt.lt {w : World} {r : Nat} {l : List UInt8} (h : RdAt w r l) : r < w.heap.size := (Array.getElem?_eq_some_iff.1 h).1
theorem RdAt.below {w w' : World} {r : Nat} {l : List UInt8} (h : RdAt w r l) (hb : Below w.heap.size w w') : RdAt w' r l := (hb.block r h.lt).trans h
theorem RdAt.cell {w : World} {r : Nat} {l : List UInt8} (h : RdAt w r l) : w.cell? ⟨r, 0, none⟩ = some (.string (txt l)) := by rw [cell_of_row _ _ _ _ _ _ h]; rfl
set_option maxRecDepth 100000 in
set_option maxHeartbeats 4000000 in
theorem line_any (r : Nat) (l : List UInt8) (w : World) (h : RdAt w r l) (hl : l.length ≤ 1000000) (hE : Env w) :
    Calls Tryz.prog 25 #[.pointer (some ⟨r, 0, none⟩)] w fun e w' => e = .returned (.string (txt (Lib.cut l [10]).1)) ∧ RdAt w' r (Lib.cut l [10]).2.1 ∧ FrR r w w' := by
  have HR := Lib.hid h
  have HC := Lib.hid (cut_any l 10 w hE (by omega))
  have hcl := h.cell
  clear h hE
  go_enter Tryz.func25, Tryz.ntmps25
  go_wp2_with fail
  clear hcl
  refine HC.out.mono ?_
  rintro e w1 ⟨rfl, hb⟩
  have HR1 := Lib.hid (HR.out.below hb)
  have HF1 : Hid (FrR r w w1) := FrR.of hb
  have hcl := HR1.out.cell
  have hfo := frozen_of_row w1 r 0 _ _ HR1.out
  have HR2 : Hid (RdAt (w1.setCell ⟨r, 0, none⟩ (.string (txt (Lib.cut l [10]).2.1))) r (Lib.cut l [10]).2.1) := (heap_setCell_same w1 r 0 _ _ _ HR1.out).trans rfl
  have HF2 := Lib.hid (HF1.out.trans (FrR.setCell r 0 (.string (txt (Lib.cut l [10]).2.1)) w1))
  clear hb HC
  go_wp2_with fail
  go_ret
  exact ⟨rfl, HR2.out, HF2.out⟩
set_option maxRecDepth 100000 in
set_option maxHeartbeats 4000000 in
theorem rdid_any (r : Nat) (l : List UInt8) (w : World) (h : RdAt w r l) (hl : l.length ≤ 1000000) (hE : Env w) :
    Calls Tryz.prog 24 #[.pointer (some ⟨r, 0, none⟩)] w fun e w' => e = .returned (.agg (V8 (parsed (txt (Lib.cut l [10]).1)))) ∧ RdAt w' r (Lib.cut l [10]).2.1 ∧ FrR r w w' := by
  have HR := Lib.hid h
  have HE := Lib.hid hE
  obtain ⟨T1, hT1⟩ : ∃ s, txt (Lib.cut l [10]).1 = s := ⟨_, rfl⟩
  have HT1 := Lib.hid hT1
  have HSZ : Hid (T1.size ≤ 9223372036854775807) := by
    show _ ≤ _
    rw [← hT1, txt_size]
    have := (cut_len l 10).1
    omega
  obtain ⟨pid, hpid⟩ : ∃ s, parsed T1 = s := ⟨_, rfl⟩
  have HPID := Lib.hid hpid
  have HPL : Hid (pid.length = 20) := by rw [← hpid]; exact parsed_length _
  rw [hT1, hpid]
  clear hT1 hpid
  have hz := zero_id
  have HLT : Hid (r ≠ w.heap.size) := by have := h.lt; show _ ≠ _; omega
  have HZ0 : Hid ((w.alloc (.cells (V8 zeros20) 27)).heap[w.heap.size]? = some (.cells (V8 zeros20) 27 (0, 0))) := heap_alloc_new _ _
  have HB0 : Hid (Below w.heap.size w (w.alloc (.cells (V8 zeros20) 27))) := (Below.refl _ _).alloc (Nat.le_refl _) _
  clear h hE
  go_enter Tryz.func24, Tryz.ntmps24
  go_wp2_with fail
  generalize w.alloc (.cells (V8 zeros20) 27) = w0 at *
  obtain ⟨b0, hb0⟩ : ∃ b, w.heap.size = b := ⟨_, rfl⟩
  have HBE := Lib.hid hb0
  rw [hb0] at HZ0 HLT
  simp only [hb0]
  clear hb0
  refine (line_any r l w0 (HR.out.below HB0.out) hl (HE.out.below HB0.out)).mono ?_
  rintro e w1 ⟨rfl, hr, hf⟩
  have HR1 := Lib.hid hr
  have HF1 := Lib.hid ((FrR.of (r := r) HB0.out).trans hf)
  have HZ1 := Lib.hid ((hf.block b0 (Array.getElem?_eq_some_iff.1 HZ0.out).1 (fun e => HLT.out e.symm)).trans HZ0.out)
  clear hr hf HZ0
  rw [HT1.out]
  go_wp2_with fail
  refine (parse_any T1 w1 HSZ.out).mono ?_
  rintro e w2 ⟨rfl, hb⟩
  have HR2 := Lib.hid (HR1.out.below hb)
  have HF2 := Lib.hid (HF1.out.trans (FrR.of (r := r) hb))
  have HZ2 := Lib.hid ((hb.block b0 (Array.getElem?_eq_some_iff.1 HZ1.out).1).trans HZ1.out)
  rw [HPID.out]
  clear hb HZ1
  have HIF := Lib.hid (id_info pid HPL.out)
  have HSZ2 : Hid ((V8 zeros20).size = (V8 pid).size) := by show _ = _; rw [V8_size, V8_size, HPL.out]; rfl
  have HZF : Hid ((w2.alloc (.cells (V8 zeros20) 27)).heap[w2.heap.size]? = some (.cells (V8 zeros20) 27 (0, 0))) := heap_alloc_new _ _
  have HI3 : Hid (((w2.alloc (.cells (V8 zeros20) 27)).setRow w2.heap.size (V8 pid)).heap[w2.heap.size]? = some (.cells (V8 pid) 27 (0, 0))) := setRow_heap _ _ _ _ _ _ HZF.out
  have HB3 : Hid (Below w2.heap.size w2 ((w2.alloc (.cells (V8 zeros20) 27)).setRow w2.heap.size (V8 pid))) := below_setRow ((Below.refl _ _).alloc (Nat.le_refl _) _) (Nat.le_refl _) _
  have HR3 := Lib.hid (HR2.out.below HB3.out)
  have HF3 := Lib.hid (HF2.out.trans (FrR.of (r := r) HB3.out))
  have HL2 := Lib.hid (Array.getElem?_eq_some_iff.1 HZ2.out).1
  have HZ3 := Lib.hid ((HB3.out.block b0 HL2.out).trans HZ2.out)
  go_wp2_with (first
    | refine wpList_store_row rfl 27 _ _ rfl w2.heap.size (V8 pid) rfl rfl 27 (V8 zeros20) HZF.out HIF.out HSZ2.out (V8_one _) ?_
    | refine wpList_load_row rfl 27 _ rfl w2.heap.size rfl 27 (V8 pid) (0, 0) (.array 20 5) HI3.out Tryz.underlying27 rfl HIF.out ?_
    | refine wpList_store_row rfl 27 _ _ rfl b0 (V8 pid) rfl rfl 27 (V8 zeros20) HZ3.out HIF.out HSZ2.out (V8_one _) ?_)
  generalize (w2.alloc (.cells (V8 zeros20) 27)).setRow w2.heap.size (V8 pid) = w3 at *
  have HI4 : Hid ((w3.setRow b0 (V8 pid)).heap[b0]? = some (.cells (V8 pid) 27 (0, 0))) := setRow_heap _ _ _ _ _ _ HZ3.out
  have HR4 : Hid (RdAt (w3.setRow b0 (V8 pid)) r (Lib.cut l [10]).2.1) := (setRow_other w3 b0 r _ HLT.out).trans HR3.out
  have HF4 : Hid (FrR r w (w3.setRow b0 (V8 pid))) := ⟨HF3.out.os, HF3.out.tape, HF3.out.output, by have := HF3.out.size; simpa [World.setRow] using this, fun k hk hn => (setRow_other w3 b0 k _ (by have := HBE.out; omega)).trans (HF3.out.block k hk hn)⟩
  refine bodyPost_ret (results_cell_row Tryz.results24 _ _ b0 27 (V8 pid) (0, 0) _ rfl HI4.out Tryz.underlying27 rfl HIF.out) rfl ?_
  exact ⟨rfl, HR4.out, HF4.out⟩
theorem decF_le (l : List UInt8) : (decF l).1 ≤ 4611686018427387903 := by
  unfold decF
  split
  · split
    · rename_i h
      show Int.toNat _ ≤ _
      omega
    · show 0 ≤ _; omega
  · show 0 ≤ _; omega
set_option maxRecDepth 100000 in
set_option maxHeartbeats 4000000 in
theorem number_any (l : List UInt8) (w : World) (hE : EnvC w) (hl : l.length ≤ 1000000) :
    Calls Tryz.prog 47 #[.string (txt l)] w fun e w' => e = .returned (.int .i64 (numP l)) ∧ Below w.heap.size w w' := by
  have HE := Lib.hid hE
  have HCP0 := Tryz.strings_CutPrefix (txt l) ⟨#[45]⟩ w
  rw [txt_list] at HCP0
  clear hE
  by_cases h45 : ∃ r, l = 45 :: r
  · obtain ⟨r, rfl⟩ := h45
    have e1 : Lib.trimPrefix (45 :: r) (⟨#[45]⟩ : ByteArray).data.toList = r := by
      unfold Lib.trimPrefix Lib.hasPrefix
      simp
    have e2 : Lib.hasPrefix (45 :: r) (⟨#[45]⟩ : ByteArray).data.toList = true := by
      unfold Lib.hasPrefix
      simp
    rw [e1, e2] at HCP0
    have HCP := Lib.hid HCP0
    have HFD := Lib.hid (fromDec_any (txt r) (by rw [txt_size]; simp at hl; omega) w HE.out.tab HE.out.errs)
    rw [txt_list] at HFD
    have HLE := Lib.hid (decF_le r)
    have HNP : Hid (numP (45 :: r) = -((decF r).1 : Int)) := rfl
    rw [HNP.out]
    clear HCP0 e1 e2 hl HNP
    generalize (decF r).1 = n1 at *
    generalize (decF r).2 = n2 at *
    have HNEG : Hid (wrap64 (-(n1 : Int)) = -(n1 : Int)) := IntWalk.wrap64_in _ (by have := HLE.out; omega)
    go_enter Tryz.func47, Tryz.ntmps47
    go_wp2_with fail
    refine HCP.out.mono ?_
    rintro e w1 ⟨rfl, rfl⟩
    go_wp2_with fail
    refine HFD.out.mono ?_
    rintro e w2 ⟨rfl, hb⟩
    have HB := Lib.hid hb
    clear hb
    go_wp2_with fail
    go_ret
    exact ⟨by show Ending.returned (.int .i64 (wrap64 (-(n1 : Int)))) = _; rw [HNEG.out], HB.out⟩
  · have e2 : Lib.hasPrefix l (⟨#[45]⟩ : ByteArray).data.toList = false := by
      unfold Lib.hasPrefix
      cases l with
      | nil => rfl
      | cons a r =>
        have : ¬ a = 45 := fun e => h45 ⟨r, by rw [e]⟩
        show ([45] : List UInt8).isPrefixOf (a :: r) = false
        simp [List.isPrefixOf, Ne.symm this]
    have e1 : Lib.trimPrefix l (⟨#[45]⟩ : ByteArray).data.toList = l := by
      unfold Lib.trimPrefix
      rw [e2]; rfl
    rw [e1, e2] at HCP0
    have HCP := Lib.hid HCP0
    have HFD := Lib.hid (fromDec_any (txt l) (by rw [txt_size]; omega) w HE.out.tab HE.out.errs)
    rw [txt_list] at HFD
    have HNP : Hid (numP l = ((decF l).1 : Int)) := by
      show _ = _
      unfold numP
      split
      · rename_i r; exact absurd ⟨r, rfl⟩ h45
      · rfl
    rw [HNP.out]
    clear HCP0 e1 e2 hl HNP h45
    change Hid (Calls Tryz.prog 58 #[.string (txt l), _] w _) at HCP
    generalize (decF l).1 = n1 at *
    generalize (decF l).2 = n2 at *
    go_enter Tryz.func47, Tryz.ntmps47
    go_wp2_with fail
    refine HCP.out.mono ?_
    rintro e w1 ⟨rfl, rfl⟩
    go_wp2_with fail
    refine HFD.out.mono ?_
    rintro e w2 ⟨rfl, hb⟩
    have HB := Lib.hid hb
    clear hb
    go_wp2_with fail
    go_ret
    exact ⟨rfl, HB.out⟩
set_option maxRecDepth 100000 in
theorem meant_any (c : UInt8) (w : World) : Calls Tryz.prog 57 #[.int .u8 (c.toNat : Int)] w fun e w' => e = .returned (.int .u8 ((meantB c).toNat : Int)) ∧ w' = w := by
  by_cases h1 : c = 110
  · subst h1
    show Calls Tryz.prog 57 #[.int .u8 110] w fun e w' => e = .returned (.int .u8 10) ∧ w' = w
    go_enter Tryz.func57, Tryz.ntmps57
    go_wp2_with fail
    go_ret
    exact ⟨rfl, rfl⟩
  by_cases h2 : c = 114
  · subst h2
    show Calls Tryz.prog 57 #[.int .u8 114] w fun e w' => e = .returned (.int .u8 13) ∧ w' = w
    go_enter Tryz.func57, Tryz.ntmps57
    go_wp2_with fail
    go_ret
    exact ⟨rfl, rfl⟩
  by_cases h3 : c = 48
  · subst h3
    show Calls Tryz.prog 57 #[.int .u8 48] w fun e w' => e = .returned (.int .u8 0) ∧ w' = w
    go_enter Tryz.func57, Tryz.ntmps57
    go_wp2_with fail
    go_ret
    exact ⟨rfl, rfl⟩
  have hm : meantB c = c := by unfold meantB; rw [if_neg h1, if_neg h2, if_neg h3]
  rw [hm]
  have i1 : ¬ ((c.toNat : Nat) : Int) = 110 := fun h => h1 (UInt8.toNat_inj.1 (by show c.toNat = 110; omega))
  have i2 : ¬ ((c.toNat : Nat) : Int) = 114 := fun h => h2 (UInt8.toNat_inj.1 (by show c.toNat = 114; omega))
  have i3 : ¬ ((c.toNat : Nat) : Int) = 48 := fun h => h3 (UInt8.toNat_inj.1 (by show c.toNat = 48; omega))
  have b1 : (((c.toNat : Nat) : Int) == 110) = false := beq_eq_false_iff_ne.2 i1
  have b2 : (((c.toNat : Nat) : Int) == 114) = false := beq_eq_false_iff_ne.2 i2
  have b3 : (((c.toNat : Nat) : Int) == 48) = false := beq_eq_false_iff_ne.2 i3
  clear h1 h2 h3 hm
  generalize ((c.toNat : Nat) : Int) = ci at *
  go_enter Tryz.func57, Tryz.ntmps57
  go_wp2_with fail
  go_ret
  exact ⟨rfl, rfl⟩
theorem unval_at {l : List UInt8} {m : Nat} {c : UInt8} (h : l[m]? = some c) : (c = 92 → ∀ d, l[m + 1]? = some d → unval (l.drop m) = meantB d :: unval (l.drop (m + 2))) ∧ ((c ≠ 92 ∨ l[m + 1]? = none) → unval (l.drop m) = c :: unval (l.drop (m + 1))) := by
  obtain ⟨hm, hc⟩ := List.getElem?_eq_some_iff.1 h
  rw [List.drop_eq_getElem_cons hm, hc]
  constructor
  · intro e d hd
    obtain ⟨hm2, hd2⟩ := List.getElem?_eq_some_iff.1 hd
    rw [List.drop_eq_getElem_cons hm2, hd2, unval, if_pos e]
  · intro e
    cases hr : l.drop (m + 1) with
    | nil => rw [unval]; rfl
    | cons d r =>
      rw [unval]
      rcases e with e | e
      · rw [if_neg e]
      · have := List.getElem?_eq_none_iff.1 e
        rw [List.drop_of_length_le this] at hr
        cases hr
theorem byteCells_one (l : List UInt8) (c : UInt8) : Lib.byteCells l ++ [.int .u8 (c.toNat : Int)] = Lib.byteCells (l ++ [c]) := by
  unfold Lib.byteCells
  rw [List.map_append]; rfl
set_option maxRecDepth 100000 in
set_option maxHeartbeats 8000000 in
theorem parseval_any (l : List UInt8) (w : World) (hl : l.length ≤ 1000000) :
    Calls Tryz.prog 46 #[.string (txt l)] w fun e w' => e = .returned (.string (txt (unval l))) ∧ Below w.heap.size w w' := by
  have HSB := Lib.hid hl
  have hts : (txt l).size = l.length := txt_size l
  obtain ⟨n, hn⟩ : ∃ n, l.length = n := ⟨_, rfl⟩
  have HN := Lib.hid hn
  rw [hn] at hts HSB
  have hbb : (w.alloc (.cells #[.pointer none, .slice none 0 0] 73)).heap[w.heap.size]? = some (.cells #[.pointer none, .slice none 0 0] 73 (0, 0)) := heap_alloc_new _ _
  have HB0 : Hid (Below w.heap.size w (w.alloc (.cells #[.pointer none, .slice none 0 0] 73))) := (Below.refl _ _).alloc (Nat.le_refl _) _
  have HU0 : Hid (Lib.IsBuilder 73 5 w.heap.size w.heap.size (Lib.byteCells []) (w.alloc (.cells #[.pointer none, .slice none 0 0] 73))) := .inl ⟨Nat.le_refl _, _, hbb, World.ownsRow_nil _ _ _ _, by simp [Value.ownBlock]⟩
  clear hbb hl hn
  go_enter Tryz.func46, Tryz.ntmps46
  go_wp2_with fail
  generalize w.alloc (.cells #[.pointer none, .slice none 0 0] 73) = w1 at *
  go_loopw [4] (fun i wr => ∃ (m : Nat) (done : List UInt8), m ≤ n ∧ i = .int .i64 (m : Int) ∧ done.length ≤ m ∧ unval l = done ++ unval (l.drop m) ∧ Lib.IsBuilder 73 5 w.heap.size w.heap.size (Lib.byteCells done) wr ∧ Below w.heap.size w wr) (fun i _ => n - (intOf i).toNat)
  case atStart => exact ⟨0, [], Nat.zero_le _, rfl, Nat.le_refl _, rfl, HU0.out, HB0.out⟩
  case round =>
    obtain ⟨m, done, hm, rfl, hdl, hun, hu, hb⟩ := hrel
    have HU := Lib.hid hu
    have HBW := Lib.hid hb
    have HUN := Lib.hid hun
    have HDL := Lib.hid hdl
    have WM := Lib.hid (next_int m (by have := HSB.out; omega))
    have WM2 := Lib.hid (next_int (m + 1) (by have := HSB.out; omega))
    have HNW : Hid (w.heap.size ≤ wr.heap.size) := HBW.out.size
    clear hu hb hun hdl HU0 HB0
    by_cases hmn : m < n
    · have hmi : (m : Int) < (n : Int) := by omega
      have hix := fun W => index_text (txt l) m (by rw [hts]; exact hmn) (m : Int) rfl W
      obtain ⟨c, hc⟩ : ∃ c, l[m]? = some c := ⟨_, List.getElem?_eq_getElem (by rw [HN.out]; exact hmn)⟩
      have HUA := Lib.hid (unval_at hc)
      have hca : at8 (txt l) m = c.toNat := by rw [at8_txt, hc]; rfl
      rw [hca] at hix
      have HMN := Lib.hid hmn
      clear hc hca hmn hm
      by_cases h92 : c = 92
      · subst h92
        have hix : ∀ W, (Instr.index 9 (.string (txt l)) (.int .i64 (m : Int))).run Tryz.prog W = .ok (.int .u8 92) W := hix
        by_cases hm1 : m + 1 < n
        · have hmi1 : ((m + 1 : Nat) : Int) < (n : Int) := by omega
          obtain ⟨d, hd⟩ : ∃ d, l[m + 1]? = some d := ⟨_, List.getElem?_eq_getElem (by rw [HN.out]; exact hm1)⟩
          have hix2 := fun W => index_text (txt l) (m + 1) (by rw [hts]; exact hm1) ((m + 1 : Nat) : Int) rfl W
          have hda : at8 (txt l) (m + 1) = d.toNat := by rw [at8_txt, hd]; rfl
          rw [hda] at hix2
          have HU2 := Lib.hid (HUA.out.1 rfl d hd)
          have hw1 : wrap64 ((m : Int) + 1) = ((m + 1 : Nat) : Int) := WM.out _ rfl
          obtain ⟨m1, hm1e⟩ : ∃ x, m + 1 = x := ⟨_, rfl⟩
          have HM1 := Lib.hid hm1e
          rw [hm1e] at hmi1 hix2 hw1 WM2
          have HM1N : Hid (m1 < n) := by show _ < _; omega
          have HME := Lib.hid (meant_any d)
          clear hd hda hm1 hm1e
          generalize (d.toNat : Int) = di at *
          go_wp2_with fail
          clear hix hix2 hw1 hmi hmi1
          refine (HME.out wr).mono ?_
          rintro e w2 ⟨rfl, rfl⟩
          rename World => w2
          go_wp2_with fail
          refine (writeByte_k w.heap.size w.heap.size (Lib.byteCells done) _ w2 HU.out (by have h1 := HDL.out; have h2 := HSB.out; have h3 := HMN.out; rw [Lib.byteCells_length]; omega) HNW.out).mono ?_
          rintro e w3 ⟨rfl, ⟨hu, hb⟩, -⟩
          rw [byteCells_one] at hu
          have HU3 := Lib.hid hu
          have HB3 := Lib.hid (HBW.out.trans hb)
          clear hu hb
          go_wp2_with fail
          exact ⟨⟨m1 + 1, done ++ [meantB d], by have := HM1N.out; omega, by first | rw [WM2.out _ rfl] | rfl, by have := HDL.out; have := HM1.out; rw [List.length_append, List.length_singleton]; omega, by rw [HUN.out, HU2.out, ← HM1.out]; simp, .inr HU3.out, HB3.out⟩, by have := HM1N.out; have := HM1.out; (first | rw [WM2.out _ rfl] | skip); simp [intOf]; omega⟩
        · have hmi1 : ¬ ((m + 1 : Nat) : Int) < (n : Int) := by omega
          have HU2 := Lib.hid (HUA.out.2 (.inr (List.getElem?_eq_none (by rw [HN.out]; omega))))
          have hw1 : wrap64 ((m : Int) + 1) = ((m + 1 : Nat) : Int) := WM.out _ rfl
          obtain ⟨m1, hm1e⟩ : ∃ x, m + 1 = x := ⟨_, rfl⟩
          have HM1 := Lib.hid hm1e
          rw [hm1e] at hmi1 hw1 WM HU2
          clear hm1 hm1e
          go_wp2_with fail
          clear hix hw1 hmi hmi1
          refine (writeByte_k w.heap.size w.heap.size (Lib.byteCells done) _ wr HU.out (by have h1 := HDL.out; have h2 := HSB.out; have h3 := HMN.out; rw [Lib.byteCells_length]; omega) HNW.out).mono ?_
          rintro e w3 ⟨rfl, ⟨hu, hb⟩, -⟩
          have hu : Lib.BuilderAt 73 5 w.heap.size w.heap.size (.pointer (some ⟨w.heap.size, 0, none⟩)) (Lib.byteCells done ++ [.int .u8 ((92 : UInt8).toNat : Int)]) w3 := hu
          rw [byteCells_one] at hu
          have HU3 := Lib.hid hu
          have HB3 := Lib.hid (HBW.out.trans hb)
          clear hu hb
          go_wp2_with fail
          exact ⟨⟨m1, done ++ [92], by have := HM1.out; have := HMN.out; omega, by first | rw [WM.out _ rfl] | rfl, by have := HDL.out; have := HM1.out; rw [List.length_append, List.length_singleton]; omega, by rw [HUN.out, HU2.out]; simp, .inr HU3.out, HB3.out⟩, by have := HM1.out; have := HMN.out; (first | rw [WM.out _ rfl] | skip); simp [intOf]; omega⟩
      · have HU2 := Lib.hid (HUA.out.2 (.inl h92))
        have i1 : ¬ ((c.toNat : Nat) : Int) = 92 := fun h => h92 (UInt8.toNat_inj.1 (by show c.toNat = 92; omega))
        have b1 : (((c.toNat : Nat) : Int) == 92) = false := beq_eq_false_iff_ne.2 i1
        have HBC := Lib.hid (byteCells_one done c)
        clear h92 HUA
        generalize ((c.toNat : Nat) : Int) = ci at *
        go_wp2_with fail
        clear hix hmi i1 b1
        refine (writeByte_k w.heap.size w.heap.size (Lib.byteCells done) ci wr HU.out (by have h1 := HDL.out; have h2 := HSB.out; have h3 := HMN.out; rw [Lib.byteCells_length]; omega) HNW.out).mono ?_
        rintro e w3 ⟨rfl, ⟨hu, hb⟩, -⟩
        rw [HBC.out] at hu
        have HU3 := Lib.hid hu
        have HB3 := Lib.hid (HBW.out.trans hb)
        clear hu hb
        go_wp2_with fail
        exact ⟨⟨m + 1, done ++ [c], HMN.out, by first | rw [WM.out _ rfl] | rfl, by have := HDL.out; rw [List.length_append, List.length_singleton]; omega, by rw [HUN.out, HU2.out]; simp, .inr HU3.out, HB3.out⟩, by have := HMN.out; (first | rw [WM.out _ rfl] | skip); simp [intOf]; omega⟩
    · have hmi : ¬ (m : Int) < (n : Int) := by omega
      have HDN : Hid (unval l = done) := by
        show _ = _
        rw [HUN.out, List.drop_of_length_le (by rw [HN.out]; omega)]
        simp [unval]
      clear hmn hm
      go_wp2_with fail
      refine (Tryz.Builder_String_any w.heap.size w.heap.size done wr HU.out HNW.out).mono ?_
      rintro e w2 ⟨rfl, hb⟩
      have HB2 := Lib.hid (HBW.out.trans hb)
      clear hb
      go_wp2_with fail
      go_ret
      exact ⟨by rw [HDN.out]; rfl, HB2.out⟩
end Go.Proofs.YthokcdjmhhlcdaaGreatDoor
