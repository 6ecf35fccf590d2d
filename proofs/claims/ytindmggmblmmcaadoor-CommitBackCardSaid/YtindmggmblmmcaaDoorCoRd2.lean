/- The reader of a commit: id, who, endOfExtra, message: the walks. -/
import Derived.Test.YtindmggmblmmcaaDoorCoRd1
namespace Go.Proofs.YtindmggmblmmcaaDoor
open Go.RowKit Plain Go.ChangeShapes Go.WideShapes Go.ChangeAt Go.Great
set_option linter.unusedVariables false
set_option linter.unusedSimpArgs false
theorem FrR.setRow {r b : Nat} {w w' : World} (h : FrR r w w') (hb : w.heap.size ≤ b) (cs : Array Value) : FrR r w (w'.setRow b cs) :=
  ⟨h.os, h.tape, h.output, by have := h.size; simpa [World.setRow] using this, fun k hk hn => (setRow_other w' b k _ (by omega)).trans (h.block k hk hn)⟩
/-- The start's variables lie below the reader. -/
def EnvR (r : Nat) (w : World) : Prop := ∃ w0, EnvC w0 ∧ Below w0.heap.size w0 w ∧ w0.heap.size ≤ r
theorem EnvR.env {r : Nat} {w : World} (h : EnvR r w) : EnvC w := by
  obtain ⟨w0, h1, h2, -⟩ := h
  exact h1.below h2
theorem EnvR.below {r : Nat} {w w' : World} (h : EnvR r w) (hb : Below w.heap.size w w') : EnvR r w' := by
  obtain ⟨w0, h1, h2, h3⟩ := h
  exact ⟨w0, h1, h2.trans (hb.mono h2.size), h3⟩
theorem EnvR.frr {r : Nat} {w w' : World} (h : EnvR r w) (hf : FrR r w w') : EnvR r w' := by
  obtain ⟨w0, h1, h2, h3⟩ := h
  exact ⟨w0, h1, h2.trans (hf.below h3 h2.size), h3⟩
theorem personE_snd (V : List UInt8) : ((personE V).2 : Int) = 0 ∨ ((personE V).2 : Int) = 4 := by
  unfold personE
  split
  · split
    · exact .inl rfl
    · exact .inr rfl
  · exact .inr rfl
def idS (k : List UInt8) (s : St) : List Int × St := (parsed (txt (valS k s).1), if parsedE (txt (valS k s).1) = 0 then (valS k s).2 else ([], true))
def whoS (k : List UInt8) (s : St) : WX × St := ((personE (valS k s).1).1, if ((personE (valS k s).1).2 : Int) = 0 then (valS k s).2 else ([], true))
set_option maxRecDepth 100000 in
set_option maxHeartbeats 8000000 in
theorem rdid_any (r : Nat) (k : List UInt8) (s : St) (w : World) (h : RdAt w r s) (hk : 10 ∉ k) (hkl : k.length ≤ 1000) (hl : s.1.length ≤ 30000) (hE : EnvR r w) :
    Calls Tryd.prog 18 #[.pointer (some ⟨r, 0, none⟩), .string (txt k)] w fun e w' => e = .returned (.agg (V8 (parsed (txt (valS k s).1)))) ∧ RdAt w' r (idS k s).2 ∧ FrR r w w' := by
  have HR := Lib.hid h
  have HE := Lib.hid hE
  have HVV : Hid (∀ W, RdAt W r s → Calls Tryd.prog 32 #[.pointer (some ⟨r, 0, none⟩), .string (txt k)] W fun e w' => e = .returned (.string (txt (valS k s).1)) ∧ RdAt w' r (valS k s).2 ∧ FrR r W w') := fun W hW => value_any r k s W hW hk hkl (by omega)
  obtain ⟨V, hV⟩ : ∃ v, (valS k s).1 = v := ⟨_, rfl⟩
  obtain ⟨S1, hS1⟩ : ∃ v, (valS k s).2 = v := ⟨_, rfl⟩
  have HVL : Hid (V.length ≤ 30000) := by rw [← hV]; have := (valS_len k s).1; show _ ≤ _; omega
  have HND : Hid ((idS k s).2 = if parsedE (txt V) = 0 then S1 else ([], true)) := by show _ = _; unfold idS; rw [hV, hS1]
  rw [hV] 
  rw [hV, hS1] at HVV
  have hz := zero_id
  have HLT : Hid (r ≠ w.heap.size) := by have := h.lt; show _ ≠ _; omega
  have HZ0 : Hid ((w.alloc (.cells (V8 zeros20) 30)).heap[w.heap.size]? = some (.cells (V8 zeros20) 30 (0, 0))) := heap_alloc_new _ _
  have HB0 : Hid (Below w.heap.size w (w.alloc (.cells (V8 zeros20) 30))) := (Below.refl _ _).alloc (Nat.le_refl _) _
  clear h hE hk hkl hl hV hS1
  go_enter Tryd.func18, Tryd.ntmps18
  go_wp2_with fail
  generalize w.alloc (.cells (V8 zeros20) 30) = w0 at *
  obtain ⟨b0, hb0⟩ : ∃ b, w.heap.size = b := ⟨_, rfl⟩
  have HBE := Lib.hid hb0
  rw [hb0] at HZ0 HLT
  simp only [hb0]
  clear hb0
  refine (HVV.out w0 (HR.out.below HB0.out)).mono ?_
  rintro e w1 ⟨rfl, hr, hf⟩
  have HR1 := Lib.hid hr
  have HF1 := Lib.hid ((FrR.of (r := r) HB0.out).trans hf)
  have HZ1 := Lib.hid ((hf.block b0 (Array.getElem?_eq_some_iff.1 HZ0.out).1 (fun e => HLT.out e.symm)).trans HZ0.out)
  have HE1 := Lib.hid ((HE.out.below HB0.out).frr hf)
  clear hr hf HZ0 HVV
  go_wp2_with fail
  refine (parse_any (txt V) w1 (by rw [txt_size]; have := HVL.out; omega)).mono ?_
  rintro e w2 ⟨rfl, hb⟩
  have HR2 := Lib.hid (HR1.out.below hb)
  have HF2 := Lib.hid (HF1.out.trans (FrR.of (r := r) hb))
  have HZ2 := Lib.hid ((hb.block b0 (Array.getElem?_eq_some_iff.1 HZ1.out).1).trans HZ1.out)
  clear hb HZ1
  have HIF := Lib.hid (id_info (parsed (txt V)) (parsed_length _))
  have HSZ2 : Hid ((V8 zeros20).size = (V8 (parsed (txt V))).size) := by show _ = _; rw [V8_size, V8_size, parsed_length]; rfl
  have HZF : Hid ((w2.alloc (.cells (V8 zeros20) 30)).heap[w2.heap.size]? = some (.cells (V8 zeros20) 30 (0, 0))) := heap_alloc_new _ _
  have HI3 : Hid (((w2.alloc (.cells (V8 zeros20) 30)).setRow w2.heap.size (V8 (parsed (txt V)))).heap[w2.heap.size]? = some (.cells (V8 (parsed (txt V))) 30 (0, 0))) := setRow_heap _ _ _ _ _ _ HZF.out
  have HB3 : Hid (Below w2.heap.size w2 ((w2.alloc (.cells (V8 zeros20) 30)).setRow w2.heap.size (V8 (parsed (txt V))))) := below_setRow ((Below.refl _ _).alloc (Nat.le_refl _) _) (Nat.le_refl _) _
  have HR3 := Lib.hid (HR2.out.below HB3.out)
  have HF3 := Lib.hid (HF2.out.trans (FrR.of (r := r) HB3.out))
  have HL2 := Lib.hid (Array.getElem?_eq_some_iff.1 HZ2.out).1
  have HZ3 := Lib.hid ((HB3.out.block b0 HL2.out).trans HZ2.out)
  have HRL := Lib.hid HR2.out.lt
  obtain ⟨q, hq⟩ : ∃ q, parsedE (txt V) = q := ⟨_, rfl⟩
  have HQ := Lib.hid hq
  rw [hq] at HND
  have h04 : q = 0 ∨ q = 4 := by rw [← hq]; unfold parsedE; split; exact .inl rfl; exact .inr rfl
  rw [hq]
  clear hq
  rcases h04 with rfl | rfl
  · have HN2 : Hid ((idS k s).2 = S1) := HND.out
    go_wp2_with (first
      | refine wpList_store_row rfl 30 _ _ rfl w2.heap.size (V8 (parsed (txt V))) rfl rfl 30 (V8 zeros20) HZF.out HIF.out HSZ2.out (V8_one _) ?_
      | refine wpList_load_row rfl 30 _ rfl w2.heap.size rfl 30 (V8 (parsed (txt V))) (0, 0) _ HI3.out Tryd.underlying30 rfl HIF.out ?_
      | refine wpList_store_row rfl 30 _ _ rfl b0 (V8 (parsed (txt V))) rfl rfl 30 (V8 zeros20) HZ3.out HIF.out HSZ2.out (V8_one _) ?_)
    generalize (w2.alloc (.cells (V8 zeros20) 30)).setRow w2.heap.size (V8 (parsed (txt V))) = w3 at *
    have HI4 : Hid ((w3.setRow b0 (V8 (parsed (txt V)))).heap[b0]? = some (.cells (V8 (parsed (txt V))) 30 (0, 0))) := setRow_heap _ _ _ _ _ _ HZ3.out
    have HR4 : Hid (RdAt (w3.setRow b0 (V8 (parsed (txt V)))) r S1) := (setRow_other w3 b0 r _ HLT.out).trans HR3.out
    have HF4 : Hid (FrR r w (w3.setRow b0 (V8 (parsed (txt V))))) := HF3.out.setRow (by have := HBE.out; omega) _
    refine bodyPost_ret (results_cell_row Tryd.results18 _ _ b0 30 (V8 (parsed (txt V))) (0, 0) _ rfl HI4.out Tryd.underlying30 rfl HIF.out) rfl ?_
    exact ⟨rfl, by rw [HN2.out]; exact HR4.out, HF4.out⟩
  · have HN2 : Hid ((idS k s).2 = ([], true)) := HND.out
    go_wp2_with (first
      | refine wpList_store_row rfl 30 _ _ rfl w2.heap.size (V8 (parsed (txt V))) rfl rfl 30 (V8 zeros20) HZF.out HIF.out HSZ2.out (V8_one _) ?_)
    generalize (w2.alloc (.cells (V8 zeros20) 30)).setRow w2.heap.size (V8 (parsed (txt V))) = w3 at *
    refine (fail_any r S1 w3 HR3.out).mono ?_
    rintro e w4 ⟨rfl, hr, hf⟩
    have HR4 := Lib.hid hr
    have HF4 := Lib.hid (HF3.out.trans hf)
    have HI4 := Lib.hid ((hf.block w2.heap.size (Array.getElem?_eq_some_iff.1 HI3.out).1 (by have := HRL.out; omega)).trans HI3.out)
    have HZ4 := Lib.hid ((hf.block b0 (Array.getElem?_eq_some_iff.1 HZ3.out).1 (fun e => HLT.out e.symm)).trans HZ3.out)
    clear hr hf
    go_wp2_with (first
      | refine wpList_load_row rfl 30 _ rfl w2.heap.size rfl 30 (V8 (parsed (txt V))) (0, 0) _ HI4.out Tryd.underlying30 rfl HIF.out ?_
      | refine wpList_store_row rfl 30 _ _ rfl b0 (V8 (parsed (txt V))) rfl rfl 30 (V8 zeros20) HZ4.out HIF.out HSZ2.out (V8_one _) ?_)
    have HI5 : Hid ((w4.setRow b0 (V8 (parsed (txt V)))).heap[b0]? = some (.cells (V8 (parsed (txt V))) 30 (0, 0))) := setRow_heap _ _ _ _ _ _ HZ4.out
    have HR5 : Hid (RdAt (w4.setRow b0 (V8 (parsed (txt V)))) r ([], true)) := (setRow_other w4 b0 r _ HLT.out).trans HR4.out
    have HF5 : Hid (FrR r w (w4.setRow b0 (V8 (parsed (txt V))))) := HF4.out.setRow (by have := HBE.out; omega) _
    refine bodyPost_ret (results_cell_row Tryd.results18 _ _ b0 30 (V8 (parsed (txt V))) (0, 0) _ rfl HI5.out Tryd.underlying30 rfl HIF.out) rfl ?_
    exact ⟨rfl, by rw [HN2.out]; exact HR5.out, HF5.out⟩
set_option maxRecDepth 100000 in
set_option maxHeartbeats 8000000 in
theorem rdwho_any (r : Nat) (k : List UInt8) (s : St) (w : World) (h : RdAt w r s) (hk : 10 ∉ k) (hkl : k.length ≤ 1000) (hl : s.1.length ≤ 30000) (hE : EnvR r w) :
    Calls Tryd.prog 20 #[.pointer (some ⟨r, 0, none⟩), .string (txt k)] w fun e w' => e = .returned (.agg (whoA (personE (valS k s).1).1)) ∧ RdAt w' r (whoS k s).2 ∧ FrR r w w' := by
  have HR := Lib.hid h
  have HE := Lib.hid hE
  have HVV : Hid (∀ W, RdAt W r s → Calls Tryd.prog 32 #[.pointer (some ⟨r, 0, none⟩), .string (txt k)] W fun e w' => e = .returned (.string (txt (valS k s).1)) ∧ RdAt w' r (valS k s).2 ∧ FrR r W w') := fun W hW => value_any r k s W hW hk hkl (by omega)
  obtain ⟨V, hV⟩ : ∃ v, (valS k s).1 = v := ⟨_, rfl⟩
  obtain ⟨S1, hS1⟩ : ∃ v, (valS k s).2 = v := ⟨_, rfl⟩
  have HVL : Hid (V.length ≤ 30000) := by rw [← hV]; have := (valS_len k s).1; show _ ≤ _; omega
  have HND : Hid ((whoS k s).2 = if ((personE V).2 : Int) = 0 then S1 else ([], true)) := by show _ = _; unfold whoS; rw [hV, hS1]
  rw [hV] 
  rw [hV, hS1] at HVV

  have HLT : Hid (r ≠ w.heap.size) := by have := h.lt; show _ ≠ _; omega
  have HZ0 : Hid ((w.alloc (.cells (#[.string ⟨#[]⟩, .string ⟨#[]⟩, .int .i64 0, .string ⟨#[]⟩]) 32)).heap[w.heap.size]? = some (.cells (#[.string ⟨#[]⟩, .string ⟨#[]⟩, .int .i64 0, .string ⟨#[]⟩]) 32 (0, 0))) := heap_alloc_new _ _
  have HB0 : Hid (Below w.heap.size w (w.alloc (.cells (#[.string ⟨#[]⟩, .string ⟨#[]⟩, .int .i64 0, .string ⟨#[]⟩]) 32))) := (Below.refl _ _).alloc (Nat.le_refl _) _
  clear h hE hk hkl hl hV hS1
  go_enter Tryd.func20, Tryd.ntmps20
  go_wp2_with fail
  generalize w.alloc (.cells (#[.string ⟨#[]⟩, .string ⟨#[]⟩, .int .i64 0, .string ⟨#[]⟩]) 32) = w0 at *
  obtain ⟨b0, hb0⟩ : ∃ b, w.heap.size = b := ⟨_, rfl⟩
  have HBE := Lib.hid hb0
  rw [hb0] at HZ0 HLT
  simp only [hb0]
  clear hb0
  refine (HVV.out w0 (HR.out.below HB0.out)).mono ?_
  rintro e w1 ⟨rfl, hr, hf⟩
  have HR1 := Lib.hid hr
  have HF1 := Lib.hid ((FrR.of (r := r) HB0.out).trans hf)
  have HZ1 := Lib.hid ((hf.block b0 (Array.getElem?_eq_some_iff.1 HZ0.out).1 (fun e => HLT.out e.symm)).trans HZ0.out)
  have HE1 := Lib.hid ((HE.out.below HB0.out).frr hf)
  clear hr hf HZ0 HVV
  go_wp2_with fail
  refine (person_any V w1 HE1.out.env (by have := HVL.out; omega)).mono ?_
  rintro e w2 ⟨rfl, hb⟩
  have HR2 := Lib.hid (HR1.out.below hb)
  have HF2 := Lib.hid (HF1.out.trans (FrR.of (r := r) hb))
  have HZ2 := Lib.hid ((hb.block b0 (Array.getElem?_eq_some_iff.1 HZ1.out).1).trans HZ1.out)
  clear hb HZ1
  have HIF := Lib.hid (info_who (personE V).1)
  have HSZ2 : Hid ((#[.string ⟨#[]⟩, .string ⟨#[]⟩, .int .i64 0, .string ⟨#[]⟩] : Array Value).size = (whoA (personE V).1).size) := rfl
  have HZF : Hid ((w2.alloc (.cells (#[.string ⟨#[]⟩, .string ⟨#[]⟩, .int .i64 0, .string ⟨#[]⟩]) 32)).heap[w2.heap.size]? = some (.cells (#[.string ⟨#[]⟩, .string ⟨#[]⟩, .int .i64 0, .string ⟨#[]⟩]) 32 (0, 0))) := heap_alloc_new _ _
  have HI3 : Hid (((w2.alloc (.cells (#[.string ⟨#[]⟩, .string ⟨#[]⟩, .int .i64 0, .string ⟨#[]⟩]) 32)).setRow w2.heap.size (whoA (personE V).1)).heap[w2.heap.size]? = some (.cells (whoA (personE V).1) 32 (0, 0))) := setRow_heap _ _ _ _ _ _ HZF.out
  have HB3 : Hid (Below w2.heap.size w2 ((w2.alloc (.cells (#[.string ⟨#[]⟩, .string ⟨#[]⟩, .int .i64 0, .string ⟨#[]⟩]) 32)).setRow w2.heap.size (whoA (personE V).1))) := below_setRow ((Below.refl _ _).alloc (Nat.le_refl _) _) (Nat.le_refl _) _
  have HR3 := Lib.hid (HR2.out.below HB3.out)
  have HF3 := Lib.hid (HF2.out.trans (FrR.of (r := r) HB3.out))
  have HL2 := Lib.hid (Array.getElem?_eq_some_iff.1 HZ2.out).1
  have HZ3 := Lib.hid ((HB3.out.block b0 HL2.out).trans HZ2.out)
  have HRL := Lib.hid HR2.out.lt
  obtain ⟨q, hq⟩ : ∃ q, ((personE V).2 : Int) = q := ⟨_, rfl⟩
  have HQ := Lib.hid hq
  rw [hq] at HND
  have h04 : q = 0 ∨ q = 4 := by rw [← hq]; exact personE_snd V
  rw [hq]
  clear hq
  rcases h04 with rfl | rfl
  · have HN2 : Hid ((whoS k s).2 = S1) := HND.out
    go_wp2_with (first
      | refine wpList_store_row rfl 32 _ _ rfl w2.heap.size (whoA (personE V).1) rfl rfl 32 (#[.string ⟨#[]⟩, .string ⟨#[]⟩, .int .i64 0, .string ⟨#[]⟩]) HZF.out HIF.out HSZ2.out (who_one _) ?_
      | refine wpList_load_row rfl 32 _ rfl w2.heap.size rfl 32 (whoA (personE V).1) (0, 0) _ HI3.out Tryd.underlying32 rfl HIF.out ?_
      | refine wpList_store_row rfl 32 _ _ rfl b0 (whoA (personE V).1) rfl rfl 32 (#[.string ⟨#[]⟩, .string ⟨#[]⟩, .int .i64 0, .string ⟨#[]⟩]) HZ3.out HIF.out HSZ2.out (who_one _) ?_)
    generalize (w2.alloc (.cells (#[.string ⟨#[]⟩, .string ⟨#[]⟩, .int .i64 0, .string ⟨#[]⟩]) 32)).setRow w2.heap.size (whoA (personE V).1) = w3 at *
    have HI4 : Hid ((w3.setRow b0 (whoA (personE V).1)).heap[b0]? = some (.cells (whoA (personE V).1) 32 (0, 0))) := setRow_heap _ _ _ _ _ _ HZ3.out
    have HR4 : Hid (RdAt (w3.setRow b0 (whoA (personE V).1)) r S1) := (setRow_other w3 b0 r _ HLT.out).trans HR3.out
    have HF4 : Hid (FrR r w (w3.setRow b0 (whoA (personE V).1))) := HF3.out.setRow (by have := HBE.out; omega) _
    refine bodyPost_ret (results_cell_row Tryd.results20 _ _ b0 32 (whoA (personE V).1) (0, 0) _ rfl HI4.out Tryd.underlying32 rfl HIF.out) rfl ?_
    exact ⟨rfl, by rw [HN2.out]; exact HR4.out, HF4.out⟩
  · have HN2 : Hid ((whoS k s).2 = ([], true)) := HND.out
    go_wp2_with (first
      | refine wpList_store_row rfl 32 _ _ rfl w2.heap.size (whoA (personE V).1) rfl rfl 32 (#[.string ⟨#[]⟩, .string ⟨#[]⟩, .int .i64 0, .string ⟨#[]⟩]) HZF.out HIF.out HSZ2.out (who_one _) ?_)
    generalize (w2.alloc (.cells (#[.string ⟨#[]⟩, .string ⟨#[]⟩, .int .i64 0, .string ⟨#[]⟩]) 32)).setRow w2.heap.size (whoA (personE V).1) = w3 at *
    refine (fail_any r S1 w3 HR3.out).mono ?_
    rintro e w4 ⟨rfl, hr, hf⟩
    have HR4 := Lib.hid hr
    have HF4 := Lib.hid (HF3.out.trans hf)
    have HI4 := Lib.hid ((hf.block w2.heap.size (Array.getElem?_eq_some_iff.1 HI3.out).1 (by have := HRL.out; omega)).trans HI3.out)
    have HZ4 := Lib.hid ((hf.block b0 (Array.getElem?_eq_some_iff.1 HZ3.out).1 (fun e => HLT.out e.symm)).trans HZ3.out)
    clear hr hf
    go_wp2_with (first
      | refine wpList_load_row rfl 32 _ rfl w2.heap.size rfl 32 (whoA (personE V).1) (0, 0) _ HI4.out Tryd.underlying32 rfl HIF.out ?_
      | refine wpList_store_row rfl 32 _ _ rfl b0 (whoA (personE V).1) rfl rfl 32 (#[.string ⟨#[]⟩, .string ⟨#[]⟩, .int .i64 0, .string ⟨#[]⟩]) HZ4.out HIF.out HSZ2.out (who_one _) ?_)
    have HI5 : Hid ((w4.setRow b0 (whoA (personE V).1)).heap[b0]? = some (.cells (whoA (personE V).1) 32 (0, 0))) := setRow_heap _ _ _ _ _ _ HZ4.out
    have HR5 : Hid (RdAt (w4.setRow b0 (whoA (personE V).1)) r ([], true)) := (setRow_other w4 b0 r _ HLT.out).trans HR4.out
    have HF5 : Hid (FrR r w (w4.setRow b0 (whoA (personE V).1))) := HF4.out.setRow (by have := HBE.out; omega) _
    refine bodyPost_ret (results_cell_row Tryd.results20 _ _ b0 32 (whoA (personE V).1) (0, 0) _ rfl HI5.out Tryd.underlying32 rfl HIF.out) rfl ?_
    exact ⟨rfl, by rw [HN2.out]; exact HR5.out, HF5.out⟩
end Go.Proofs.YtindmggmblmmcaaDoor
