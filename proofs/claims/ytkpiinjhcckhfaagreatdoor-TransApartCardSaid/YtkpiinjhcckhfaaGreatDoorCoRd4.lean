/- The reader of a commit: begins, take, fail, value: the walks. -/
import Derived.Test.YtkpiinjhcckhfaaGreatDoorCoPrint
/-! The reader of a commit: begins, take, fail, value: the walks. -/
namespace Go.Proofs.YtkpiinjhcckhfaaGreatDoor
open Go.RowKit Plain Go.ChangeShapes Go.WideShapes Go.ChangeAt Go.Great
set_option linter.unusedVariables false
set_option linter.unusedSimpArgs false
/-- Nothing that lay there is changed, but for one block. -/
structure FrR (r : Nat) (w w' : World) : Prop where
  os : w'.os = w.os
  tape : w'.tape = w.tape
  output : w'.output = w.output
  size : w.heap.size ≤ w'.heap.size
  block : ∀ k, k < w.heap.size → k ≠ r → w'.heap[k]? = w.heap[k]?
theorem FrR.below {r B : Nat} {w w' : World} (h : FrR r w w') (hr : B ≤ r) (hB : B ≤ w.heap.size) : Below B w w' := ⟨h.os, h.tape, h.output, h.size, fun k hk => h.block k (by omega) (by omega)⟩
theorem FrR.of {r : Nat} {w w' : World} (h : Below w.heap.size w w') : FrR r w w' := ⟨h.os, h.tape, h.output, h.size, fun k hk _ => h.block k hk⟩
theorem FrR.trans {r : Nat} {a b c : World} (h1 : FrR r a b) (h2 : FrR r b c) : FrR r a c := ⟨h2.os.trans h1.os, h2.tape.trans h1.tape, h2.output.trans h1.output, Nat.le_trans h1.size h2.size, fun k hk hn => (h2.block k (Nat.lt_of_lt_of_le hk h1.size) hn).trans (h1.block k hk hn)⟩
theorem FrR.setCell (r o : Nat) (v : Value) (w : World) : FrR r w (w.setCell ⟨r, o, none⟩ v) := ⟨rfl, rfl, rfl, by simp [World.setCell], fun k hk hn => heap_setCell_ne w ⟨r, o, none⟩ v k hn⟩
theorem FrR.refl (r : Nat) (w : World) : FrR r w w := ⟨rfl, rfl, rfl, Nat.le_refl _, fun _ _ _ => rfl⟩
/-- What is left to be read, and whether a part was not there. -/
abbrev St := List UInt8 × Bool
def RdAt (w : World) (r : Nat) (s : St) : Prop := w.heap[r]? = some (.cells #[.string (txt s.1), .bool s.2] 136 (0, 0))
theorem RdAt.lt {w : World} {r : Nat} {s : St} (h : RdAt w r s) : r < w.heap.size := (Array.getElem?_eq_some_iff.1 h).1
theorem RdAt.below {w w' : World} {r : Nat} {s : St} (h : RdAt w r s) (hb : Below w.heap.size w w') : RdAt w' r s := (hb.block r h.lt).trans h
theorem RdAt.left {w : World} {r : Nat} {s : St} (h : RdAt w r s) : w.cell? ⟨r, 0, none⟩ = some (.string (txt s.1)) := by rw [cell_of_row _ _ _ _ _ _ h]; rfl
theorem RdAt.wrong {w : World} {r : Nat} {s : St} (h : RdAt w r s) : w.cell? ⟨r, 1, none⟩ = some (.bool s.2) := by rw [cell_of_row _ _ _ _ _ _ h]; rfl
theorem RdAt.set0 {w : World} {r : Nat} {s : St} (h : RdAt w r s) (l : List UInt8) : RdAt (w.setCell ⟨r, 0, none⟩ (.string (txt l))) r (l, s.2) := (heap_setCell_same w r 0 _ _ _ h).trans rfl
theorem RdAt.set1 {w : World} {r : Nat} {s : St} (h : RdAt w r s) (b : Bool) : RdAt (w.setCell ⟨r, 1, none⟩ (.bool b)) r (s.1, b) := (heap_setCell_same w r 1 _ _ _ h).trans rfl
theorem slice_fr (l : List UInt8) (n : Nat) (h : n ≤ l.length) (W : World) : (Instr.slice 9 (.string (txt l)) none (some (.int .i64 (n : Int))) none).run Tryz.prog W = .ok (.string (txt (l.take n))) W := by
  have ht := Tryz.underlying9
  have hs := txt_size l
  have e : (txt l).extract 0 n = txt (l.take n) := bytes_ext (by rw [extract_list, txt_list, txt_list])
  rw [← e]
  simp [Instr.slice, run_underlying ht, Instr.sliceBounds, run_sliceBound, hs, h]
theorem txt_drop (l : List UInt8) (n : Nat) : (txt l).extract n (txt l).size = txt (l.drop n) := bytes_ext (by rw [tail_of, txt_list, txt_list])
theorem slice_tl (l : List UInt8) (lo : Nat) (h : lo ≤ l.length) (x : Int) (hx : x = (lo : Int)) (W : World) : (Instr.slice 9 (.string (txt l)) (some (.int .i64 x)) none none).run Tryz.prog W = .ok (.string (txt (l.drop lo))) W := by
  rw [slice_tail (txt l) lo (by rw [txt_size]; exact h) x hx W]
  congr 2
  exact bytes_ext (by rw [tail_of, txt_list, txt_list])
set_option maxRecDepth 100000 in
set_option maxHeartbeats 4000000 in
theorem take_any (r n : Nat) (s : St) (w : World) (h : RdAt w r s) (hn : n + 1 ≤ s.1.length) (hl : s.1.length ≤ 1000000) :
    Calls Tryz.prog 113 #[.pointer (some ⟨r, 0, none⟩), .int .i64 (n : Int)] w fun e w' => e = .returned (.string (txt (s.1.take n))) ∧ RdAt w' r (s.1.drop (n + 1), s.2) ∧ FrR r w w' := by
  have HR := Lib.hid h
  have hcl := h.left
  have hfo := frozen_of_row w r 0 _ _ h
  have hs1 := fun W => slice_fr s.1 n (by omega) W
  have hs2 := fun W => slice_tl s.1 (n + 1) hn ((n + 1 : Nat) : Int) rfl W
  have hle : n + 1 ≤ (txt s.1).size := by rw [txt_size]; exact hn
  have hex : (txt s.1).extract (n + 1) (txt s.1).size = txt (s.1.drop (n + 1)) := txt_drop s.1 (n + 1)
  have hw1 : wrap64 ((n : Int) + 1) = ((n + 1 : Nat) : Int) := next_int n (by omega) _ rfl
  have HR2 := Lib.hid (h.set0 (s.1.drop (n + 1)))
  have HF2 := Lib.hid (FrR.setCell r 0 (.string (txt (s.1.drop (n + 1)))) w)
  clear h hn hl
  go_enter Tryz.func113, Tryz.ntmps113
  go_wp2_with fail
  go_ret
  exact ⟨rfl, HR2.out, HF2.out⟩
set_option maxRecDepth 100000 in
set_option maxHeartbeats 4000000 in
theorem fail_any (r : Nat) (s : St) (w : World) (h : RdAt w r s) :
    Calls Tryz.prog 109 #[.pointer (some ⟨r, 0, none⟩)] w fun e w' => e = .returned (.tuple #[]) ∧ RdAt w' r ([], true) ∧ FrR r w w' := by
  have hcl := h.wrong
  have hfo := frozen_of_row w r 1 _ _ h
  have h1 := h.set1 true
  have HF1 := Lib.hid (FrR.setCell r 1 (.bool true) w)
  have hcl2 := h1.left
  have hfo2 := frozen_of_row _ r 0 _ _ h1
  have HR2 := Lib.hid (h1.set0 [])
  have HF2 := Lib.hid (HF1.out.trans (FrR.setCell r 0 (.string (txt [])) _))
  clear h h1
  go_enter Tryz.func109, Tryz.ntmps109
  go_wp2_with fail
  refine bodyPost_end (results_none rfl _ _ _) rfl ?_
  exact ⟨rfl, HR2.out, HF2.out⟩
set_option maxRecDepth 100000 in
set_option maxHeartbeats 4000000 in
theorem begins_any (r g : Nat) (k : List UInt8) (s : St) (w : World) (h : RdAt w r s) (hk : w.cell? ⟨g, 0, none⟩ = some (.string (txt k))) (hkl : k.length ≤ 1000) :
    Calls Tryz.prog 90 #[.pointer (some ⟨r, 0, none⟩), .slice (some ⟨g, 0, none⟩) 1 1] w fun e w' => e = .returned (.bool (Lib.hasPrefix s.1 (k ++ [32]))) ∧ w' = w := by
  have HL := Lib.hid h.left
  have HK := Lib.hid hk
  have HA : Hid (∀ W, (binOp .add 9 (.string (txt k)) (.string ⟨#[32]⟩)).run Tryz.prog W = .ok (.string (txt (k ++ [32]))) W) := fun W => add_txt _ _ _ (by rw [txt_list]) (by rw [txt_size]; show _ + 1 ≤ _; omega) W
  have hp := fun W => Tryz.strings_HasPrefix (txt s.1) (txt (k ++ [32])) W
  simp only [txt_list] at hp
  have HP := Lib.hid hp
  obtain ⟨b, hb⟩ : ∃ b, Lib.hasPrefix s.1 (k ++ [32]) = b := ⟨_, rfl⟩
  rw [hb]
  simp only [hb] at HP
  clear h hk hkl hp hb
  go_enter Tryz.func90, Tryz.ntmps90
  go_wp2_with fail
  go_loopw [9] (fun i wr => ∃ k : Nat, k ≤ 1 ∧ i = .int .i64 (k : Int) ∧ wr = w ∧ (k = 1 → b = false)) (fun i _ => 1 - (intOf i).toNat)
  case atStart => exact ⟨0, by omega, rfl, rfl, fun h => by omega⟩
  case round =>
    obtain ⟨j, hj, rfl, rfl, hbj⟩ := hrel
    have HBJ := Lib.hid hbj
    clear hbj
    have hL := HL.out
    have hK := HK.out
    rcases (by omega : j = 0 ∨ j = 1) with rfl | rfl
    · go_wp2_with (first
        | refine wpList_eql (by rfl) .add 9 _ _ _ rfl (.string (txt k)) (.string ⟨#[32]⟩) rfl rfl (.string (txt (k ++ [32]))) (guard_addn _ _ _ _) HA.out ?_)
      clear hL hK
      refine (HP.out _).mono ?_
      rintro e w2 ⟨rfl, rfl⟩
      cases b
      · go_wp2_with fail
        exact ⟨⟨1, by omega, by trivial, by trivial, fun _ => by trivial⟩, by simp [intOf]⟩
      · go_wp2_with fail
        (try simp only [Exit.inBlock, Exit.then])
        go_ret
        exact ⟨rfl, rfl⟩
    · have hbf := HBJ.out rfl
      subst hbf
      go_wp2_with fail
      go_ret
      exact ⟨rfl, rfl⟩
/-- What a line behind a key tells, and what stands behind it. -/
def valO (k l : List UInt8) : Option (List UInt8 × List UInt8) :=
  if 0 ≤ Lib.indexByte l 10 ∧ Lib.hasPrefix l (k ++ [32]) = true then some ((l.take (Lib.indexByte l 10).toNat).drop (k.length + 1), l.drop ((Lib.indexByte l 10).toNat + 1)) else none
def valS (k : List UInt8) (s : St) : List UInt8 × St := match valO k s.1 with
  | some (v, l) => (v, (l, s.2))
  | none => ([], ([], true))
theorem nl_lt {l : List UInt8} (h : 0 ≤ Lib.indexByte l 10) : (Lib.indexByte l 10).toNat < l.length ∧ l[(Lib.indexByte l 10).toNat]? = some 10 := by
  induction l with
  | nil => simp [Lib.indexByte] at h
  | cons c l ih =>
    unfold Lib.indexByte at h ⊢
    by_cases hc : (c == 10) = true
    · rw [if_pos hc]
      have := eq_of_beq hc
      subst this
      exact ⟨by simp, rfl⟩
    · rw [if_neg hc] at h ⊢
      by_cases hm : (Lib.indexByte l 10 == -1) = true
      · rw [if_pos hm] at h; omega
      · rw [if_neg hm] at h ⊢
        have hge := Lib.indexByte_ge l 10
        have hm2 : ¬ Lib.indexByte l 10 = -1 := fun e => hm (beq_iff_eq.2 e)
        obtain ⟨h1, h2⟩ := ih (by omega)
        have e : (Lib.indexByte l 10 + 1).toNat = (Lib.indexByte l 10).toNat + 1 := by omega
        rw [e]
        exact ⟨by rw [List.length_cons]; omega, by rw [List.getElem?_cons_succ]; exact h2⟩
theorem key_le {k l : List UInt8} (hk : 10 ∉ k) (h : 0 ≤ Lib.indexByte l 10) (hp : Lib.hasPrefix l (k ++ [32]) = true) : k.length + 1 ≤ (Lib.indexByte l 10).toNat := by
  obtain ⟨h1, h2⟩ := nl_lt h
  unfold Lib.hasPrefix at hp
  obtain ⟨r, rfl⟩ := List.isPrefixOf_iff_prefix.1 hp
  refine Nat.le_of_not_lt fun hlt => ?_
  rw [List.getElem?_append_left (by rw [List.length_append]; exact hlt)] at h2
  have := List.mem_of_getElem? h2
  rcases List.mem_append.1 this with h3 | h3
  · exact hk h3
  · simp at h3
theorem valS_len (k : List UInt8) (s : St) : (valS k s).1.length ≤ s.1.length ∧ (valS k s).2.1.length ≤ s.1.length := by
  unfold valS valO
  split
  · rename_i v l h
    split at h
    · simp only [Option.some.injEq, Prod.mk.injEq] at h
      obtain ⟨rfl, rfl⟩ := h
      simp only [List.length_drop, List.length_take]
      omega
    · cases h
  · simp
set_option maxRecDepth 100000 in
set_option maxHeartbeats 8000000 in
theorem value_any (r : Nat) (k : List UInt8) (s : St) (w : World) (h : RdAt w r s) (hk : 10 ∉ k) (hkl : k.length ≤ 1000) (hl : s.1.length ≤ 1000000) :
    Calls Tryz.prog 108 #[.pointer (some ⟨r, 0, none⟩), .string (txt k)] w fun e w' => e = .returned (.string (txt (valS k s).1)) ∧ RdAt w' r (valS k s).2 ∧ FrR r w w' := by
  have HR := Lib.hid h
  have HKL := Lib.hid hkl
  have HLL := Lib.hid hl
  have hix := Tryz.strings_IndexByte (txt s.1) 10 w
  rw [txt_list] at hix
  have hix : Calls Tryz.prog 120 #[.string (txt s.1), .int .u8 10] w fun e w' => e = .returned (.int .i64 (Lib.indexByte s.1 10)) ∧ w' = w := hix
  have HIX := Lib.hid hix
  have hcl := h.left
  have htk := txt_size k
  clear h hl hix hkl
  by_cases hn : 0 ≤ Lib.indexByte s.1 10
  rotate_left
  · have HV : Hid (valS k s = ([], ([], true))) := by show _ = _; unfold valS valO; rw [if_neg fun hh => hn hh.1]
    have hlt : Lib.indexByte s.1 10 < 0 := by omega
    generalize Lib.indexByte s.1 10 = ix at *
    go_enter Tryz.func108, Tryz.ntmps108
    go_wp2_with fail
    clear hcl
    refine HIX.out.mono ?_
    rintro e w' ⟨rfl, rfl⟩
    go_wp2_with fail
    refine (fail_any r s _ HR.out).mono ?_
    rintro e w2 ⟨rfl, hr, hf⟩
    have HR2 := Lib.hid hr
    have HF2 := Lib.hid hf
    clear hr hf
    go_wp2_with fail
    go_ret
    rw [HV.out]
    exact ⟨rfl, HR2.out, HF2.out⟩
  have HNL := Lib.hid (nl_lt hn)
  have HKE := Lib.hid fun hp => key_le hk hn hp
  obtain ⟨b, hb⟩ : ∃ b, Lib.hasPrefix s.1 (k ++ [32]) = b := ⟨_, rfl⟩
  have HBP := Lib.hid hb
  obtain ⟨n, hnn⟩ : ∃ n : Nat, Lib.indexByte s.1 10 = (n : Int) := ⟨(Lib.indexByte s.1 10).toNat, by omega⟩
  have HVO : Hid (valS k s = match (if b = true then some ((s.1.take n).drop (k.length + 1), s.1.drop (n + 1)) else none : Option (List UInt8 × List UInt8)) with | some (v, l) => (v, (l, s.2)) | none => ([], ([], true))) := by
    show _ = _
    unfold valS valO
    rw [hnn, hb]
    simp
  have HN : Hid (n + 1 ≤ s.1.length ∧ (b = true → k.length + 1 ≤ n)) := by
    have h1 := HNL.out.1
    have h2 := HKE.out
    rw [hnn] at h1 h2
    rw [hb] at h2
    have h3 : n < s.1.length := by simpa using h1
    exact ⟨h3, by simpa using h2⟩
  rw [hnn] at HIX
  have hlt : ¬ (n : Int) < 0 := by omega
  have HST : Hid (∀ W : World, RdAt W r s → RdAt (W.alloc (.cells #[.string (txt k)] 9)) r s) := fun W hW => hW.below ((Below.refl _ _).alloc (Nat.le_refl _) _)
  have HNC : Hid (∀ W : World, (W.alloc (.cells #[.string (txt k)] 9)).cell? ⟨W.heap.size, 0, none⟩ = some (.string (txt k))) := fun W => by rw [cell_of_row _ _ _ _ _ _ (heap_alloc_new W _)]; rfl
  have hss := fun W => slice_str (txt k) W
  clear hk hn hb HNL HKE hnn
  go_enter Tryz.func108, Tryz.ntmps108
  go_wp2_with fail
  clear hcl
  refine HIX.out.mono ?_
  rintro e w' ⟨rfl, rfl⟩
  rename World => w
  go_wp2_with (first
    | refine wpList_slice rfl 38 1 #[(0, _)] rfl #[(0, .string (txt k))] (map_one _ _ _ rfl) _ _ (slice_str _ w) ?_)
  refine (begins_any r w.heap.size k s _ (HST.out w HR.out) (HNC.out w) HKL.out).mono ?_
  rintro e w2 ⟨rfl, hw2⟩
  rw [HBP.out]
  have HR2 : Hid (RdAt w2 r s) := by rw [hw2]; exact HST.out w HR.out
  have HF2 : Hid (FrR r w w2) := by rw [hw2]; exact FrR.of ((Below.refl _ _).alloc (Nat.le_refl _) _)
  clear hw2
  cases b
  · have HV : Hid (valS k s = ([], ([], true))) := HVO.out
    go_wp2_with fail
    refine (fail_any r s w2 HR2.out).mono ?_
    rintro e w3 ⟨rfl, hr, hf⟩
    have HR3 := Lib.hid hr
    have HF3 := Lib.hid (HF2.out.trans hf)
    clear hr hf
    go_wp2_with fail
    go_ret
    rw [HV.out]
    exact ⟨rfl, HR3.out, HF3.out⟩
  · have HV : Hid (valS k s = ((s.1.take n).drop (k.length + 1), (s.1.drop (n + 1), s.2))) := HVO.out
    go_wp2_with fail
    refine (take_any r n s w2 HR2.out HN.out.1 HLL.out).mono ?_
    rintro e w3 ⟨rfl, hr, hf⟩
    have HR3 := Lib.hid hr
    have HF3 := Lib.hid (HF2.out.trans hf)
    clear hr hf
    have hs2 := fun W => slice_tl (s.1.take n) (k.length + 1) (by have := HN.out.1; have := HN.out.2 (by trivial); rw [List.length_take]; omega) ((k.length + 1 : Nat) : Int) rfl W
    have hle : k.length + 1 ≤ (txt (s.1.take n)).size := by have := HN.out.1; have := HN.out.2 (by trivial); rw [txt_size, List.length_take]; omega
    have hex : (txt (s.1.take n)).extract (k.length + 1) (txt (s.1.take n)).size = txt ((s.1.take n).drop (k.length + 1)) := txt_drop _ _
    have hw1 : wrap64 ((k.length : Int) + 1) = ((k.length + 1 : Nat) : Int) := next_int k.length (by have := HKL.out; omega) _ rfl
    go_wp2_with fail
    go_ret
    rw [HV.out]
    exact ⟨rfl, HR3.out, HF3.out⟩
end Go.Proofs.YtkpiinjhcckhfaaGreatDoor
/-! The reader of a commit: id, who, endOfExtra, message: the walks. -/
namespace Go.Proofs.YtkpiinjhcckhfaaGreatDoor
open Go.RowKit Plain Go.ChangeShapes Go.WideShapes Go.ChangeAt Go.Great
set_option linter.unusedVariables false
set_option linter.unusedSimpArgs false
theorem FrR.setRow {r b : Nat} {w w' : World} (h : FrR r w w') (hb : w.heap.size ≤ b) (cs : Array Value) : FrR r w (w'.setRow b cs) :=
  ⟨h.os, h.tape, h.output, by have := h.size; simpa [World.setRow] using this, fun k hk hn => (setRow_other w' b k _ (by omega)).trans (h.block k hk hn)⟩
/-- The start's variables lie below the reader. -/
def EnvR (r : Nat) (w : World) : Prop := ∃ w0, EnvC w0 ∧ Below w0.heap.size w0 w ∧ w0.heap.size ≤ r
theorem EnvR.env {r : Nat} {w : World} (h : EnvR r w) : EnvC w := by
  obtain ⟨w0, h1, h2, -⟩ := h
  exact h1.below h2
theorem EnvR.below {r : Nat} {w w' : World} (h : EnvR r w) (hb : Below w.heap.size w w') : EnvR r w' := by
  obtain ⟨w0, h1, h2, h3⟩ := h
  exact ⟨w0, h1, h2.trans (hb.mono h2.size), h3⟩
theorem EnvR.frr {r : Nat} {w w' : World} (h : EnvR r w) (hf : FrR r w w') : EnvR r w' := by
  obtain ⟨w0, h1, h2, h3⟩ := h
  exact ⟨w0, h1, h2.trans (hf.below h3 h2.size), h3⟩
theorem personE_snd (V : List UInt8) : ((personE V).2 : Int) = 0 ∨ ((personE V).2 : Int) = 4 := by
  unfold personE
  split
  · split
    · exact .inl rfl
    · exact .inr rfl
  · exact .inr rfl
def idS (k : List UInt8) (s : St) : List Int × St := (parsed (txt (valS k s).1), if parsedE (txt (valS k s).1) = 0 then (valS k s).2 else ([], true))
def whoS (k : List UInt8) (s : St) : WX × St := ((personE (valS k s).1).1, if ((personE (valS k s).1).2 : Int) = 0 then (valS k s).2 else ([], true))
set_option maxRecDepth 100000 in
set_option maxHeartbeats 8000000 in
theorem rdid_any (r : Nat) (k : List UInt8) (s : St) (w : World) (h : RdAt w r s) (hk : 10 ∉ k) (hkl : k.length ≤ 1000) (hl : s.1.length ≤ 30000) (hE : EnvR r w) :
    Calls Tryz.prog 89 #[.pointer (some ⟨r, 0, none⟩), .string (txt k)] w fun e w' => e = .returned (.agg (V8 (parsed (txt (valS k s).1)))) ∧ RdAt w' r (idS k s).2 ∧ FrR r w w' := by
  have HR := Lib.hid h
  have HE := Lib.hid hE
  have HVV : Hid (∀ W, RdAt W r s → Calls Tryz.prog 108 #[.pointer (some ⟨r, 0, none⟩), .string (txt k)] W fun e w' => e = .returned (.string (txt (valS k s).1)) ∧ RdAt w' r (valS k s).2 ∧ FrR r W w') := fun W hW => value_any r k s W hW hk hkl (by omega)
  obtain ⟨V, hV⟩ : ∃ v, (valS k s).1 = v := ⟨_, rfl⟩
  obtain ⟨S1, hS1⟩ : ∃ v, (valS k s).2 = v := ⟨_, rfl⟩
  have HVL : Hid (V.length ≤ 30000) := by rw [← hV]; have := (valS_len k s).1; show _ ≤ _; omega
  have HND : Hid ((idS k s).2 = if parsedE (txt V) = 0 then S1 else ([], true)) := by show _ = _; unfold idS; rw [hV, hS1]
  rw [hV] 
  rw [hV, hS1] at HVV
  have hz := zero_id
  have HLT : Hid (r ≠ w.heap.size) := by have := h.lt; show _ ≠ _; omega
  have HZ0 : Hid ((w.alloc (.cells (V8 zeros20) 29)).heap[w.heap.size]? = some (.cells (V8 zeros20) 29 (0, 0))) := heap_alloc_new _ _
  have HB0 : Hid (Below w.heap.size w (w.alloc (.cells (V8 zeros20) 29))) := (Below.refl _ _).alloc (Nat.le_refl _) _
  clear h hE hk hkl hl hV hS1
  go_enter Tryz.func89, Tryz.ntmps89
  go_wp2_with fail
  generalize w.alloc (.cells (V8 zeros20) 29) = w0 at *
  obtain ⟨b0, hb0⟩ : ∃ b, w.heap.size = b := ⟨_, rfl⟩
  have HBE := Lib.hid hb0
  rw [hb0] at HZ0 HLT
  simp only [hb0]
  clear hb0
  refine (HVV.out w0 (HR.out.below HB0.out)).mono ?_
  rintro e w1 ⟨rfl, hr, hf⟩
  have HR1 := Lib.hid hr
  have HF1 := Lib.hid ((FrR.of (r := r) HB0.out).trans hf)
  have HZ1 := Lib.hid ((hf.block b0 (Array.getElem?_eq_some_iff.1 HZ0.out).1 (fun e => HLT.out e.symm)).trans HZ0.out)
  have HE1 := Lib.hid ((HE.out.below HB0.out).frr hf)
  clear hr hf HZ0 HVV
  go_wp2_with fail
  refine (parse_any (txt V) w1 (by rw [txt_size]; have := HVL.out; omega)).mono ?_
  rintro e w2 ⟨rfl, hb⟩
  have HR2 := Lib.hid (HR1.out.below hb)
  have HF2 := Lib.hid (HF1.out.trans (FrR.of (r := r) hb))
  have HZ2 := Lib.hid ((hb.block b0 (Array.getElem?_eq_some_iff.1 HZ1.out).1).trans HZ1.out)
  clear hb HZ1
  have HIF := Lib.hid (id_info (parsed (txt V)) (parsed_length _))
  have HSZ2 : Hid ((V8 zeros20).size = (V8 (parsed (txt V))).size) := by show _ = _; rw [V8_size, V8_size, parsed_length]; rfl
  have HZF : Hid ((w2.alloc (.cells (V8 zeros20) 29)).heap[w2.heap.size]? = some (.cells (V8 zeros20) 29 (0, 0))) := heap_alloc_new _ _
  have HI3 : Hid (((w2.alloc (.cells (V8 zeros20) 29)).setRow w2.heap.size (V8 (parsed (txt V)))).heap[w2.heap.size]? = some (.cells (V8 (parsed (txt V))) 29 (0, 0))) := setRow_heap _ _ _ _ _ _ HZF.out
  have HB3 : Hid (Below w2.heap.size w2 ((w2.alloc (.cells (V8 zeros20) 29)).setRow w2.heap.size (V8 (parsed (txt V))))) := below_setRow ((Below.refl _ _).alloc (Nat.le_refl _) _) (Nat.le_refl _) _
  have HR3 := Lib.hid (HR2.out.below HB3.out)
  have HF3 := Lib.hid (HF2.out.trans (FrR.of (r := r) HB3.out))
  have HL2 := Lib.hid (Array.getElem?_eq_some_iff.1 HZ2.out).1
  have HZ3 := Lib.hid ((HB3.out.block b0 HL2.out).trans HZ2.out)
  have HRL := Lib.hid HR2.out.lt
  obtain ⟨q, hq⟩ : ∃ q, parsedE (txt V) = q := ⟨_, rfl⟩
  have HQ := Lib.hid hq
  rw [hq] at HND
  have h04 : q = 0 ∨ q = 4 := by rw [← hq]; unfold parsedE; split; exact .inl rfl; exact .inr rfl
  rw [hq]
  clear hq
  rcases h04 with rfl | rfl
  · have HN2 : Hid ((idS k s).2 = S1) := HND.out
    go_wp2_with (first
      | refine wpList_store_row rfl 29 _ _ rfl w2.heap.size (V8 (parsed (txt V))) rfl rfl 29 (V8 zeros20) HZF.out HIF.out HSZ2.out (V8_one _) ?_
      | refine wpList_load_row rfl 29 _ rfl w2.heap.size rfl 29 (V8 (parsed (txt V))) (0, 0) _ HI3.out Tryz.underlying29 rfl HIF.out ?_
      | refine wpList_store_row rfl 29 _ _ rfl b0 (V8 (parsed (txt V))) rfl rfl 29 (V8 zeros20) HZ3.out HIF.out HSZ2.out (V8_one _) ?_)
    generalize (w2.alloc (.cells (V8 zeros20) 29)).setRow w2.heap.size (V8 (parsed (txt V))) = w3 at *
    have HI4 : Hid ((w3.setRow b0 (V8 (parsed (txt V)))).heap[b0]? = some (.cells (V8 (parsed (txt V))) 29 (0, 0))) := setRow_heap _ _ _ _ _ _ HZ3.out
    have HR4 : Hid (RdAt (w3.setRow b0 (V8 (parsed (txt V)))) r S1) := (setRow_other w3 b0 r _ HLT.out).trans HR3.out
    have HF4 : Hid (FrR r w (w3.setRow b0 (V8 (parsed (txt V))))) := HF3.out.setRow (by have := HBE.out; omega) _
    refine bodyPost_ret (results_cell_row Tryz.results89 _ _ b0 29 (V8 (parsed (txt V))) (0, 0) _ rfl HI4.out Tryz.underlying29 rfl HIF.out) rfl ?_
    exact ⟨rfl, by rw [HN2.out]; exact HR4.out, HF4.out⟩
  · have HN2 : Hid ((idS k s).2 = ([], true)) := HND.out
    go_wp2_with (first
      | refine wpList_store_row rfl 29 _ _ rfl w2.heap.size (V8 (parsed (txt V))) rfl rfl 29 (V8 zeros20) HZF.out HIF.out HSZ2.out (V8_one _) ?_)
    generalize (w2.alloc (.cells (V8 zeros20) 29)).setRow w2.heap.size (V8 (parsed (txt V))) = w3 at *
    refine (fail_any r S1 w3 HR3.out).mono ?_
    rintro e w4 ⟨rfl, hr, hf⟩
    have HR4 := Lib.hid hr
    have HF4 := Lib.hid (HF3.out.trans hf)
    have HI4 := Lib.hid ((hf.block w2.heap.size (Array.getElem?_eq_some_iff.1 HI3.out).1 (by have := HRL.out; omega)).trans HI3.out)
    have HZ4 := Lib.hid ((hf.block b0 (Array.getElem?_eq_some_iff.1 HZ3.out).1 (fun e => HLT.out e.symm)).trans HZ3.out)
    clear hr hf
    go_wp2_with (first
      | refine wpList_load_row rfl 29 _ rfl w2.heap.size rfl 29 (V8 (parsed (txt V))) (0, 0) _ HI4.out Tryz.underlying29 rfl HIF.out ?_
      | refine wpList_store_row rfl 29 _ _ rfl b0 (V8 (parsed (txt V))) rfl rfl 29 (V8 zeros20) HZ4.out HIF.out HSZ2.out (V8_one _) ?_)
    have HI5 : Hid ((w4.setRow b0 (V8 (parsed (txt V)))).heap[b0]? = some (.cells (V8 (parsed (txt V))) 29 (0, 0))) := setRow_heap _ _ _ _ _ _ HZ4.out
    have HR5 : Hid (RdAt (w4.setRow b0 (V8 (parsed (txt V)))) r ([], true)) := (setRow_other w4 b0 r _ HLT.out).trans HR4.out
    have HF5 : Hid (FrR r w (w4.setRow b0 (V8 (parsed (txt V))))) := HF4.out.setRow (by have := HBE.out; omega) _
    refine bodyPost_ret (results_cell_row Tryz.results89 _ _ b0 29 (V8 (parsed (txt V))) (0, 0) _ rfl HI5.out Tryz.underlying29 rfl HIF.out) rfl ?_
    exact ⟨rfl, by rw [HN2.out]; exact HR5.out, HF5.out⟩
set_option maxRecDepth 100000 in
set_option maxHeartbeats 8000000 in
theorem rdwho_any (r : Nat) (k : List UInt8) (s : St) (w : World) (h : RdAt w r s) (hk : 10 ∉ k) (hkl : k.length ≤ 1000) (hl : s.1.length ≤ 30000) (hE : EnvR r w) :
    Calls Tryz.prog 91 #[.pointer (some ⟨r, 0, none⟩), .string (txt k)] w fun e w' => e = .returned (.agg (whoA (personE (valS k s).1).1)) ∧ RdAt w' r (whoS k s).2 ∧ FrR r w w' := by
  have HR := Lib.hid h
  have HE := Lib.hid hE
  have HVV : Hid (∀ W, RdAt W r s → Calls Tryz.prog 108 #[.pointer (some ⟨r, 0, none⟩), .string (txt k)] W fun e w' => e = .returned (.string (txt (valS k s).1)) ∧ RdAt w' r (valS k s).2 ∧ FrR r W w') := fun W hW => value_any r k s W hW hk hkl (by omega)
  obtain ⟨V, hV⟩ : ∃ v, (valS k s).1 = v := ⟨_, rfl⟩
  obtain ⟨S1, hS1⟩ : ∃ v, (valS k s).2 = v := ⟨_, rfl⟩
  have HVL : Hid (V.length ≤ 30000) := by rw [← hV]; have := (valS_len k s).1; show _ ≤ _; omega
  have HND : Hid ((whoS k s).2 = if ((personE V).2 : Int) = 0 then S1 else ([], true)) := by show _ = _; unfold whoS; rw [hV, hS1]
  rw [hV] 
  rw [hV, hS1] at HVV

  have HLT : Hid (r ≠ w.heap.size) := by have := h.lt; show _ ≠ _; omega
  have HZ0 : Hid ((w.alloc (.cells (#[.string ⟨#[]⟩, .string ⟨#[]⟩, .int .i64 0, .string ⟨#[]⟩]) 31)).heap[w.heap.size]? = some (.cells (#[.string ⟨#[]⟩, .string ⟨#[]⟩, .int .i64 0, .string ⟨#[]⟩]) 31 (0, 0))) := heap_alloc_new _ _
  have HB0 : Hid (Below w.heap.size w (w.alloc (.cells (#[.string ⟨#[]⟩, .string ⟨#[]⟩, .int .i64 0, .string ⟨#[]⟩]) 31))) := (Below.refl _ _).alloc (Nat.le_refl _) _
  clear h hE hk hkl hl hV hS1
  go_enter Tryz.func91, Tryz.ntmps91
  go_wp2_with fail
  generalize w.alloc (.cells (#[.string ⟨#[]⟩, .string ⟨#[]⟩, .int .i64 0, .string ⟨#[]⟩]) 31) = w0 at *
  obtain ⟨b0, hb0⟩ : ∃ b, w.heap.size = b := ⟨_, rfl⟩
  have HBE := Lib.hid hb0
  rw [hb0] at HZ0 HLT
  simp only [hb0]
  clear hb0
  refine (HVV.out w0 (HR.out.below HB0.out)).mono ?_
  rintro e w1 ⟨rfl, hr, hf⟩
  have HR1 := Lib.hid hr
  have HF1 := Lib.hid ((FrR.of (r := r) HB0.out).trans hf)
  have HZ1 := Lib.hid ((hf.block b0 (Array.getElem?_eq_some_iff.1 HZ0.out).1 (fun e => HLT.out e.symm)).trans HZ0.out)
  have HE1 := Lib.hid ((HE.out.below HB0.out).frr hf)
  clear hr hf HZ0 HVV
  go_wp2_with fail
  refine (person_any V w1 HE1.out.env (by have := HVL.out; omega)).mono ?_
  rintro e w2 ⟨rfl, hb⟩
  have HR2 := Lib.hid (HR1.out.below hb)
  have HF2 := Lib.hid (HF1.out.trans (FrR.of (r := r) hb))
  have HZ2 := Lib.hid ((hb.block b0 (Array.getElem?_eq_some_iff.1 HZ1.out).1).trans HZ1.out)
  clear hb HZ1
  have HIF := Lib.hid (info_who (personE V).1)
  have HSZ2 : Hid ((#[.string ⟨#[]⟩, .string ⟨#[]⟩, .int .i64 0, .string ⟨#[]⟩] : Array Value).size = (whoA (personE V).1).size) := rfl
  have HZF : Hid ((w2.alloc (.cells (#[.string ⟨#[]⟩, .string ⟨#[]⟩, .int .i64 0, .string ⟨#[]⟩]) 31)).heap[w2.heap.size]? = some (.cells (#[.string ⟨#[]⟩, .string ⟨#[]⟩, .int .i64 0, .string ⟨#[]⟩]) 31 (0, 0))) := heap_alloc_new _ _
  have HI3 : Hid (((w2.alloc (.cells (#[.string ⟨#[]⟩, .string ⟨#[]⟩, .int .i64 0, .string ⟨#[]⟩]) 31)).setRow w2.heap.size (whoA (personE V).1)).heap[w2.heap.size]? = some (.cells (whoA (personE V).1) 31 (0, 0))) := setRow_heap _ _ _ _ _ _ HZF.out
  have HB3 : Hid (Below w2.heap.size w2 ((w2.alloc (.cells (#[.string ⟨#[]⟩, .string ⟨#[]⟩, .int .i64 0, .string ⟨#[]⟩]) 31)).setRow w2.heap.size (whoA (personE V).1))) := below_setRow ((Below.refl _ _).alloc (Nat.le_refl _) _) (Nat.le_refl _) _
  have HR3 := Lib.hid (HR2.out.below HB3.out)
  have HF3 := Lib.hid (HF2.out.trans (FrR.of (r := r) HB3.out))
  have HL2 := Lib.hid (Array.getElem?_eq_some_iff.1 HZ2.out).1
  have HZ3 := Lib.hid ((HB3.out.block b0 HL2.out).trans HZ2.out)
  have HRL := Lib.hid HR2.out.lt
  obtain ⟨q, hq⟩ : ∃ q, ((personE V).2 : Int) = q := ⟨_, rfl⟩
  have HQ := Lib.hid hq
  rw [hq] at HND
  have h04 : q = 0 ∨ q = 4 := by rw [← hq]; exact personE_snd V
  rw [hq]
  clear hq
  rcases h04 with rfl | rfl
  · have HN2 : Hid ((whoS k s).2 = S1) := HND.out
    go_wp2_with (first
      | refine wpList_store_row rfl 31 _ _ rfl w2.heap.size (whoA (personE V).1) rfl rfl 31 (#[.string ⟨#[]⟩, .string ⟨#[]⟩, .int .i64 0, .string ⟨#[]⟩]) HZF.out HIF.out HSZ2.out (who_one _) ?_
      | refine wpList_load_row rfl 31 _ rfl w2.heap.size rfl 31 (whoA (personE V).1) (0, 0) _ HI3.out Tryz.underlying31 rfl HIF.out ?_
      | refine wpList_store_row rfl 31 _ _ rfl b0 (whoA (personE V).1) rfl rfl 31 (#[.string ⟨#[]⟩, .string ⟨#[]⟩, .int .i64 0, .string ⟨#[]⟩]) HZ3.out HIF.out HSZ2.out (who_one _) ?_)
    generalize (w2.alloc (.cells (#[.string ⟨#[]⟩, .string ⟨#[]⟩, .int .i64 0, .string ⟨#[]⟩]) 31)).setRow w2.heap.size (whoA (personE V).1) = w3 at *
    have HI4 : Hid ((w3.setRow b0 (whoA (personE V).1)).heap[b0]? = some (.cells (whoA (personE V).1) 31 (0, 0))) := setRow_heap _ _ _ _ _ _ HZ3.out
    have HR4 : Hid (RdAt (w3.setRow b0 (whoA (personE V).1)) r S1) := (setRow_other w3 b0 r _ HLT.out).trans HR3.out
    have HF4 : Hid (FrR r w (w3.setRow b0 (whoA (personE V).1))) := HF3.out.setRow (by have := HBE.out; omega) _
    refine bodyPost_ret (results_cell_row Tryz.results91 _ _ b0 31 (whoA (personE V).1) (0, 0) _ rfl HI4.out Tryz.underlying31 rfl HIF.out) rfl ?_
    exact ⟨rfl, by rw [HN2.out]; exact HR4.out, HF4.out⟩
  · have HN2 : Hid ((whoS k s).2 = ([], true)) := HND.out
    go_wp2_with (first
      | refine wpList_store_row rfl 31 _ _ rfl w2.heap.size (whoA (personE V).1) rfl rfl 31 (#[.string ⟨#[]⟩, .string ⟨#[]⟩, .int .i64 0, .string ⟨#[]⟩]) HZF.out HIF.out HSZ2.out (who_one _) ?_)
    generalize (w2.alloc (.cells (#[.string ⟨#[]⟩, .string ⟨#[]⟩, .int .i64 0, .string ⟨#[]⟩]) 31)).setRow w2.heap.size (whoA (personE V).1) = w3 at *
    refine (fail_any r S1 w3 HR3.out).mono ?_
    rintro e w4 ⟨rfl, hr, hf⟩
    have HR4 := Lib.hid hr
    have HF4 := Lib.hid (HF3.out.trans hf)
    have HI4 := Lib.hid ((hf.block w2.heap.size (Array.getElem?_eq_some_iff.1 HI3.out).1 (by have := HRL.out; omega)).trans HI3.out)
    have HZ4 := Lib.hid ((hf.block b0 (Array.getElem?_eq_some_iff.1 HZ3.out).1 (fun e => HLT.out e.symm)).trans HZ3.out)
    clear hr hf
    go_wp2_with (first
      | refine wpList_load_row rfl 31 _ rfl w2.heap.size rfl 31 (whoA (personE V).1) (0, 0) _ HI4.out Tryz.underlying31 rfl HIF.out ?_
      | refine wpList_store_row rfl 31 _ _ rfl b0 (whoA (personE V).1) rfl rfl 31 (#[.string ⟨#[]⟩, .string ⟨#[]⟩, .int .i64 0, .string ⟨#[]⟩]) HZ4.out HIF.out HSZ2.out (who_one _) ?_)
    have HI5 : Hid ((w4.setRow b0 (whoA (personE V).1)).heap[b0]? = some (.cells (whoA (personE V).1) 31 (0, 0))) := setRow_heap _ _ _ _ _ _ HZ4.out
    have HR5 : Hid (RdAt (w4.setRow b0 (whoA (personE V).1)) r ([], true)) := (setRow_other w4 b0 r _ HLT.out).trans HR4.out
    have HF5 : Hid (FrR r w (w4.setRow b0 (whoA (personE V).1))) := HF4.out.setRow (by have := HBE.out; omega) _
    refine bodyPost_ret (results_cell_row Tryz.results91 _ _ b0 31 (whoA (personE V).1) (0, 0) _ rfl HI5.out Tryz.underlying31 rfl HIF.out) rfl ?_
    exact ⟨rfl, by rw [HN2.out]; exact HR5.out, HF5.out⟩
end Go.Proofs.YtkpiinjhcckhfaaGreatDoor
/-! The reader of a commit: endOfExtra, message, extras: the walks. -/
namespace Go.Proofs.YtkpiinjhcckhfaaGreatDoor
open Go.RowKit Plain Go.ChangeShapes Go.WideShapes Go.ChangeAt Go.Great
set_option linter.unusedVariables false
set_option linter.unusedSimpArgs false
theorem slice_G1 {α : Type} {k : Nat} {enc : α → List Value} {SL e : TypeId} {by' : Nat} (hE : Elem SL e k by') (hk0 : 0 < k) (hk1 : k ≤ 1000) (hby : by' ≤ 64) (hk : ∀ x, (enc x).length = k) (x : α) (v : Value) (hv : v.cells = (enc x).toArray) (W : World) :
    (Instr.buildSlice SL 1 #[(0, v)]).run Tryz.prog W = .ok (.slice (some ⟨W.heap.size, 0, none⟩) 1 1) (W.alloc (.cells (enc x).toArray e)) := by
  obtain ⟨hu, i, z, hi, hz, h1, h2, h3⟩ := hE
  refine run_buildSlice W _ _ _ _ _ i _ hu hi hz (by rw [h1]; omega) (by rw [h1]; omega) ?_
  rw [h1]
  have := Go.Great.fill_whole (s := k) hk0 [v] (Array.map (fun x => z.cells[x % z.cells.size]!) (Array.range (1 * k))) (fun u hu => by rw [List.mem_singleton.1 hu, hv, List.size_toArray, hk]) (by simp)
  rw [show #[(0, v)].toList = [(0, v)] from rfl]
  simpa [hv] using this
theorem one_G {α : Type} {k : Nat} {enc : α → List Value} (W : World) (e : TypeId) (x : α) : ∀ (j : Nat) y, [x][j]? = some y → (W.alloc (.cells (enc x).toArray e)).rangeAt W.heap.size (0 + j * k) (enc y) := fun j y hj => by
  have h0 : j = 0 := by
    have := (List.getElem?_eq_some_iff.1 hj).1
    simp at this; omega
  subst h0
  obtain rfl : x = y := by simpa using hj
  intro i v hv
  rw [cell_of_row _ _ _ _ _ _ (heap_alloc_new W _), show 0 + 0 * k + i = i by omega, ← hv]
  simp
def endX : List UInt8 → Option Nat
  | [] => none
  | c :: r => if c = 10 ∧ Lib.hasPrefix r [32] = false then some 0 else (endX r).map (· + 1)
theorem endX_miss {l : List UInt8} (h : Lib.indexByte l 10 < 0) : endX l = none := by
  induction l with
  | nil => rfl
  | cons c l ih =>
    unfold Lib.indexByte at h
    by_cases hc : (c == 10) = true
    · rw [if_pos hc] at h; omega
    · rw [if_neg hc] at h
      have hge := Lib.indexByte_ge l 10
      by_cases hm : (Lib.indexByte l 10 == -1) = true
      · unfold endX
        rw [if_neg fun hh => hc (by rw [hh.1]; rfl), ih (by rw [eq_of_beq hm]; decide)]; rfl
      · rw [if_neg hm] at h; omega
theorem endX_hit : ∀ {l : List UInt8} {n : Nat}, Lib.indexByte l 10 = (n : Int) → (Lib.hasPrefix (l.drop (n + 1)) [32] = false → endX l = some n) ∧ (Lib.hasPrefix (l.drop (n + 1)) [32] = true → endX l = (endX (l.drop (n + 1))).map (· + (n + 1)))
  | [], n, h => by simp [Lib.indexByte] at h
  | c :: l, n, h => by
    unfold Lib.indexByte at h
    by_cases hc : (c == 10) = true
    · rw [if_pos hc] at h
      obtain rfl : n = 0 := by omega
      have hc' : c = 10 := eq_of_beq hc
      refine ⟨fun hp => ?_, fun hp => ?_⟩
      · unfold endX; rw [if_pos ⟨hc', by simpa using hp⟩]
      · have hp' : Lib.hasPrefix l [32] = true := by simpa using hp
        conv => lhs; unfold endX
        rw [if_neg fun hh => by rw [hp'] at hh; exact absurd hh.2 (by decide)]
        rfl
    · rw [if_neg hc] at h
      by_cases hm : (Lib.indexByte l 10 == -1) = true
      · rw [if_pos hm] at h; omega
      · rw [if_neg hm] at h
        obtain ⟨m, rfl⟩ : ∃ m, n = m + 1 := ⟨n - 1, by have := Lib.indexByte_ge l 10; have : ¬ Lib.indexByte l 10 = -1 := fun e => hm (beq_iff_eq.2 e); omega⟩
        have ih := endX_hit (l := l) (n := m) (by omega)
        have e : endX (c :: l) = (endX l).map (· + 1) := by
          conv => lhs; unfold endX
          rw [if_neg fun hh => hc (by rw [hh.1]; rfl)]
        rw [e]
        refine ⟨fun hp => ?_, fun hp => ?_⟩
        · rw [ih.1 (by simpa using hp)]; rfl
        · rw [ih.2 (by simpa using hp), Option.map_map]
          rw [List.drop_succ_cons]
          congr 1
theorem endX_lt : ∀ {l : List UInt8} {n : Nat}, endX l = some n → n < l.length
  | [], n, h => by simp [endX] at h
  | c :: l, n, h => by
    unfold endX at h
    split at h
    · simp only [Option.some.injEq] at h; subst h; simp
    · obtain ⟨m, hm, rfl⟩ := Option.map_eq_some_iff.1 h
      have := endX_lt hm
      rw [List.length_cons]; omega
def endI (l : List UInt8) : Int := match endX l with | some n => (n : Int) | none => -1
theorem map_add (o : Option Nat) (a b : Nat) : (o.map (· + a)).map (· + b) = o.map (· + (b + a)) := by
  cases o with
  | none => rfl
  | some n => simp only [Option.map_some, Option.some.injEq]; omega
set_option maxRecDepth 100000 in
set_option maxHeartbeats 8000000 in
theorem endof_any (l : List UInt8) (w : World) (hl : l.length ≤ 1000000) : Calls Tryz.prog 112 #[.string (txt l)] w fun e w' => e = .returned (.int .i64 (endI l)) ∧ w' = w := by
  have HL := Lib.hid hl
  have hix := fun (r : List UInt8) W => Tryz.strings_IndexByte (txt r) 10 W
  simp only [txt_list] at hix
  have HIX : Hid (∀ (r : List UInt8) W, Calls Tryz.prog 120 #[.string (txt r), .int .u8 10] W fun e w' => e = .returned (.int .i64 (Lib.indexByte r 10)) ∧ w' = W) := fun r W => hix r W
  have hpp := fun (r : List UInt8) W => Tryz.strings_HasPrefix (txt r) ⟨#[32]⟩ W
  simp only [txt_list] at hpp
  have HPP : Hid (∀ (r : List UInt8) W, Calls Tryz.prog 110 #[.string (txt r), .string ⟨#[32]⟩] W fun e w' => e = .returned (.bool (Lib.hasPrefix r [32])) ∧ w' = W) := fun r W => hpp r W
  clear hl hix hpp
  go_enter Tryz.func112, Tryz.ntmps112
  go_wp2_with fail
  go_loopw [3] (fun i wr => ∃ k : Nat, k ≤ l.length ∧ i = .int .i64 (k : Int) ∧ wr = w ∧ endX l = (endX (l.drop k)).map (· + k)) (fun i _ => l.length - (intOf i).toNat)
  case atStart => exact ⟨0, Nat.zero_le _, rfl, rfl, by simp⟩
  case round =>
    obtain ⟨k, hk, rfl, rfl, he⟩ := hrel
    have HEX := Lib.hid he
    have HK := Lib.hid hk
    have hle : k ≤ (txt l).size := by rw [txt_size]; exact hk
    have hex : (txt l).extract k (txt l).size = txt (l.drop k) := txt_drop l k
    clear he hk
    go_wp2_with fail
    clear hle hex
    refine (HIX.out (l.drop k) _).mono ?_
    rintro e w2 ⟨rfl, rfl⟩
    by_cases hn : Lib.indexByte (l.drop k) 10 < 0
    · have HF : Hid (endI l = -1) := by show _ = _; unfold endI; rw [HEX.out, endX_miss hn]; rfl
      generalize Lib.indexByte (l.drop k) 10 = ix at *
      go_wp2_with fail
      (try simp only [Exit.inBlock, Exit.then])
      go_ret
      exact ⟨by rw [HF.out] <;> rfl, by trivial⟩
    · obtain ⟨n, hnn⟩ : ∃ n : Nat, Lib.indexByte (l.drop k) 10 = (n : Int) := ⟨(Lib.indexByte (l.drop k) 10).toNat, by omega⟩
      have HH := Lib.hid (endX_hit hnn)
      have hnl := (nl_lt (l := l.drop k) (by omega)).1
      rw [hnn, List.length_drop] at hnl
      have hnl : n < l.length - k := by simpa using hnl
      rw [hnn]
      obtain ⟨a2, ha2⟩ : ∃ a, k + n = a := ⟨_, rfl⟩
      have HA2 := Lib.hid ha2
      have hnlt : ¬ (n : Int) < 0 := by omega
      have hw0 : wrap64 ((k : Int) + (n : Int)) = (a2 : Int) := by rw [show (k : Int) + (n : Int) = (a2 : Int) by omega]; exact IntWalk.wrap64_in _ (by have := HL.out; omega)
      have hw1 : wrap64 ((a2 : Int) + 1) = ((a2 + 1 : Nat) : Int) := next_int a2 (by have := HL.out; omega) _ rfl
      have HAL : Hid (a2 + 1 ≤ l.length) := by show _ ≤ _; omega
      have hle : a2 + 1 ≤ (txt l).size := by rw [txt_size]; exact HAL.out
      have hex : (txt l).extract (a2 + 1) (txt l).size = txt (l.drop (a2 + 1)) := txt_drop l (a2 + 1)
      have HDD : Hid ((l.drop k).drop (n + 1) = l.drop (a2 + 1)) := by show _ = _; rw [List.drop_drop, ← Nat.add_assoc, HA2.out]
      rw [HDD.out] at HH
      clear hn hnn hnl ha2
      go_wp2_with fail
      clear hle hex
      refine (HPP.out (l.drop (a2 + 1)) _).mono ?_
      rintro e w3 ⟨rfl, rfl⟩
      cases hp : Lib.hasPrefix (l.drop (a2 + 1)) [32]
      · have HF : Hid (endI l = (a2 : Int)) := by show _ = _; unfold endI; rw [HEX.out, HH.out.1 hp, ← HA2.out, Nat.add_comm k n]; rfl
        clear hp
        go_wp2_with fail
        (try simp only [Exit.inBlock, Exit.then])
        go_ret
        exact ⟨by rw [HF.out] <;> rfl, by trivial⟩
      · have HF : Hid (endX l = (endX (l.drop (a2 + 1))).map (· + (a2 + 1))) := by
          show _ = _
          rw [HEX.out, HH.out.2 hp, map_add, show k + (n + 1) = a2 + 1 by have := HA2.out; omega]
        clear hp
        go_wp2_with fail
        exact ⟨⟨a2 + 1, HAL.out, by first | rfl | trivial | rw [hw1], by trivial, HF.out⟩, by have := HAL.out; have := HA2.out; have := HK.out; (try simp only [hw1]); simp [intOf]; omega⟩
theorem ne_lit (l : List UInt8) (W : World) : (binOp .neq 9 (.string (txt l)) (.string ⟨#[]⟩)).run Tryz.prog W = .ok (.bool (!l.isEmpty)) W := by
  refine ne_str (txt l) ⟨#[]⟩ l.isEmpty ?_ W
  cases l with
  | nil => show ((⟨#[]⟩ : ByteArray).toList == (⟨#[]⟩ : ByteArray).toList) = true; exact beq_self_eq_true _
  | cons c t =>
    show (_ == _) = false
    rw [Bool.eq_false_iff]
    intro hh
    have h1 := toList_inj' _ _ (eq_of_beq hh)
    have h2 := congrArg (fun b : ByteArray => b.data.toList) h1
    simp only [txt_list] at h2
    cases h2
theorem eq_lit (l : List UInt8) (W : World) : (binOp .eql 9 (.string (txt l)) (.string ⟨#[]⟩)).run Tryz.prog W = .ok (.bool l.isEmpty) W := by
  rw [str_eql, txt_list]
  cases l <;> rfl
/-- What stands behind the empty line. -/
def msgS (s : St) : List UInt8 × St := match s.1 with
  | c :: r => if c = 10 then (r, (r, s.2)) else ([], ([], true))
  | [] => ([], ([], true))
theorem first_byte (c : UInt8) (t : List UInt8) (W : World) : (Instr.index 9 (.string (txt (c :: t))) (.int .i64 0)).run Tryz.prog W = .ok (.int .u8 (c.toNat : Int)) W := by
  have h := index_text (txt (c :: t)) 0 (by rw [txt_size]; simp) 0 rfl W
  rw [at8_txt] at h
  exact h
set_option maxRecDepth 100000 in
set_option maxHeartbeats 8000000 in
theorem message_any (r : Nat) (s : St) (w : World) (h : RdAt w r s) (hl : s.1.length ≤ 1000000) :
    Calls Tryz.prog 93 #[.pointer (some ⟨r, 0, none⟩)] w fun e w' => e = .returned (.string (txt (msgS s).1)) ∧ RdAt w' r (msgS s).2 ∧ FrR r w w' := by
  have HR := Lib.hid h
  have hcl := h.left
  obtain ⟨l, b⟩ := s
  dsimp only at hcl hl
  have HLL := Lib.hid hl
  clear h hl
  cases l with
  | nil =>
    have HE : Hid (∀ W, (binOp .eql 9 (.string (txt [])) (.string ⟨#[]⟩)).run Tryz.prog W = .ok (.bool true) W) := fun W => eq_lit [] W
    go_enter Tryz.func93, Tryz.ntmps93
    go_wp2_with (first
      | refine wpList_eql (by rfl) .eql 9 _ _ _ rfl (.string (txt [])) (.string ⟨#[]⟩) rfl rfl (.bool true) (guard_eq _ _ _ _) HE.out ?_)
    refine (fail_any r _ w HR.out).mono ?_
    rintro e w3 ⟨rfl, hr, hf⟩
    have HR3 := Lib.hid hr
    have HF3 := Lib.hid hf
    clear hr hf hcl
    go_wp2_with fail
    go_ret
    exact ⟨rfl, HR3.out, HF3.out⟩
  | cons c t =>
    have HE : Hid (∀ W, (binOp .eql 9 (.string (txt (c :: t))) (.string ⟨#[]⟩)).run Tryz.prog W = .ok (.bool false) W) := fun W => eq_lit (c :: t) W
    have hfb := fun W => first_byte c t W
    by_cases hc : c = 10
    · subst hc
      have hfb : ∀ W, (Instr.index 9 (.string (txt (10 :: t))) (.int .i64 0)).run Tryz.prog W = .ok (.int .u8 10) W := hfb
      go_enter Tryz.func93, Tryz.ntmps93
      go_wp2_with (first
        | refine wpList_eql (by rfl) .eql 9 _ _ _ rfl (.string (txt (10 :: t))) (.string ⟨#[]⟩) rfl rfl (.bool false) (guard_eq _ _ _ _) HE.out ?_)
      clear hcl
      refine (take_any r 0 (10 :: t, b) w HR.out (by simp) HLL.out).mono ?_
      rintro e w3 ⟨rfl, hr, hf⟩
      have HR3 : Hid (RdAt w3 r (t, b)) := hr
      have HF3 := Lib.hid hf
      have hcl3 := HR3.out.left
      clear hr hf
      go_wp2_with fail
      go_ret
      exact ⟨rfl, HR3.out, HF3.out⟩
    · have HM : Hid (msgS (c :: t, b) = ([], ([], true))) := by show _ = _; unfold msgS; dsimp only; rw [if_neg hc]
      rw [HM.out]
      have i1 : ¬ (c.toNat : Int) = 10 := fun h => hc (UInt8.toNat_inj.1 (by show c.toNat = 10; omega))
      have b1 : ((c.toNat : Int) != 10) = true := bne_iff_ne.2 i1
      clear hc
      generalize (c.toNat : Int) = ci at *
      go_enter Tryz.func93, Tryz.ntmps93
      go_wp2_with (first
        | refine wpList_eql (by rfl) .eql 9 _ _ _ rfl (.string (txt (c :: t))) (.string ⟨#[]⟩) rfl rfl (.bool false) (guard_eq _ _ _ _) HE.out ?_)
      refine (fail_any r _ w HR.out).mono ?_
      rintro e w3 ⟨rfl, hr, hf⟩
      have HR3 := Lib.hid hr
      have HF3 := Lib.hid hf
      clear hr hf hcl
      go_wp2_with fail
      go_ret
      exact ⟨rfl, HR3.out, HF3.out⟩
end Go.Proofs.YtkpiinjhcckhfaaGreatDoor
/-! The reader of a commit: extras: the walk. -/
namespace Go.Proofs.YtkpiinjhcckhfaaGreatDoor
open Go.RowKit Plain Go.ChangeShapes Go.WideShapes Go.ChangeAt Go.Great
set_option linter.unusedVariables false
set_option linter.unusedSimpArgs false
def lineX (l : List UInt8) : Option (ByteArray × ByteArray) := if (Lib.cut l [32]).2.2 = true then some (txt (Lib.cut l [32]).1, txt (Lib.replaceAll (Lib.cut l [32]).2.1 [10, 32] [10])) else none
def exG : Nat → List UInt8 → Option (List (ByteArray × ByteArray) × List UInt8)
  | 0, _ => none
  | f + 1, l => if l = [] ∨ l.head? = some 10 then some ([], l) else match endX l with
    | none => none
    | some n => match lineX (l.take n) with
      | none => none
      | some x => (exG f (l.drop (n + 1))).map fun (xs, r) => (x :: xs, r)
def exO (l : List UInt8) : Option (List (ByteArray × ByteArray) × List UInt8) := exG (l.length + 1) l
theorem FrR.grown {r : Nat} {w wr w' : World} {v : Value} (h : FrR r w wr) (hg : wr.grownBy w' v.ownBlock) (hv : ∀ g, v.ownBlock = some g → w.heap.size ≤ g) : FrR r w w' :=
  ⟨hg.os.trans h.os, hg.tape.trans h.tape, hg.output.trans h.output, Nat.le_trans h.size hg.size, fun k hk hn => (hg.block k (Nat.lt_of_lt_of_le hk h.size) (fun e => by have := hv k e.symm; omega)).trans (h.block k hk hn)⟩
theorem OwnG.frr {α : Type} {k : Nat} {enc : α → List Value} {e : TypeId} {w w' : World} {base r : Nat} {v : Value} {xs : List α} (h : OwnG k enc e w base v xs) (hf : FrR r w w') (hr : r < base) : OwnG k enc e w' base v xs := by
  obtain ⟨h1, h2 | ⟨g, cap, cur, h3, h4, h5, h6⟩⟩ := h
  · exact ⟨h1, .inl h2⟩
  · exact ⟨h1, .inr ⟨g, cap, cur, h3, h4, (hf.block g (Array.getElem?_eq_some_iff.1 h5).1 (by omega)).trans h5, h6⟩⟩
def rdSz (w : World) (r : Nat) : Nat := match w.cell? ⟨r, 0, none⟩ with
  | some (.string s) => s.size
  | _ => 0
theorem RdAt.sz {w : World} {r : Nat} {s : St} (h : RdAt w r s) : rdSz w r = s.1.length := by unfold rdSz; rw [h.left]; exact txt_size _
theorem build_cext (a b : ByteArray) (W : World) : (Instr.build 69 #[(0, .string a), (1, .string b)]).run Tryz.prog W = .ok (.agg (extE (a, b)).toArray) W := run_build W _ _ _ (by kernel_rfl)
/-- What extras answers. -/
def ExtsR (e : Ending) (w' : World) (base : Nat) (r : Nat) (s : St) : Prop :=
  (∃ xs l, exO s.1 = some (xs, l) ∧ ∃ v, e = .returned v ∧ OwnG 2 extE 69 w' base v xs ∧ RdAt w' r (l, s.2)) ∨ (exO s.1 = none ∧ e = .returned (.slice none 0 0) ∧ RdAt w' r ([], true))
theorem rd_len_x {l : List UInt8} {n : Nat} (h : endX l = some n) : (l.drop (n + 1)).length < l.length := by
  have := endX_lt h
  rw [List.length_drop]; omega
set_option maxRecDepth 100000 in
set_option maxHeartbeats 16000000 in
theorem extras_any (r : Nat) (s : St) (w : World) (h : RdAt w r s) (hl : s.1.length ≤ 30000) (hE : EnvR r w) :
    Calls Tryz.prog 92 #[.pointer (some ⟨r, 0, none⟩)] w fun e w' => ExtsR e w' w.heap.size r s ∧ FrR r w w' := by
  have HR := Lib.hid h
  have HE := Lib.hid hE
  have HLL := Lib.hid hl
  have HRB : Hid (r < w.heap.size) := h.lt
  obtain ⟨L, b⟩ := s
  clear h hl hE
  go_enter Tryz.func92, Tryz.ntmps92
  go_wp2_with fail
  go_loopw [3] (fun lv wr => ∃ (f : Nat) (done : List (ByteArray × ByteArray)) (l : List UInt8), l.length < f ∧ l.length ≤ L.length ∧ done.length + l.length ≤ L.length ∧ exO L = (exG f l).map (fun (xs, r) => (done ++ xs, r)) ∧ RdAt wr r (l, b) ∧ OwnG 2 extE 69 wr w.heap.size lv done ∧ FrR r w wr) (fun _ wr => rdSz wr r)
  case atStart => exact ⟨L.length + 1, [], L, by omega, by omega, by simp, by unfold exO; cases exG (L.length + 1) L <;> rfl, HR.out, OwnG.nil _ _ _, FrR.refl _ _⟩
  case round =>
    rename_i lv
    obtain ⟨f, done, l, hf, hlL, hdl, hex, hr, ho, hfr⟩ := hrel
    have HRW := Lib.hid hr
    have HOW := Lib.hid ho
    have HFW := Lib.hid hfr
    have HEX := Lib.hid hex
    have HFU := Lib.hid hf
    have HLL2 := Lib.hid hlL
    have HDL := Lib.hid hdl
    have HEW := Lib.hid (HE.out.frr hfr)
    have HSZ := Lib.hid hr.sz
    have hcl := hr.left
    dsimp only at hcl
    obtain ⟨ga, gc, hsh⟩ := ho.shape
    subst hsh
    clear hr ho hfr hex hf hlL hdl
    obtain ⟨f, rfl⟩ : ∃ g, f = g + 1 := ⟨f - 1, by have := HFU.out; omega⟩
    cases l with
    | nil =>
      have HOK : Hid (exO L = some (done, [])) := by show _ = _; rw [HEX.out]; simp [exG]
      have HNE : Hid (∀ W, (binOp .neq 9 (.string (txt [])) (.string ⟨#[]⟩)).run Tryz.prog W = .ok (.bool false) W) := fun W => ne_lit [] W
      go_wp2_with (first
        | refine wpList_eql (by rfl) .neq 9 _ _ _ rfl (.string (txt [])) (.string ⟨#[]⟩) rfl rfl (.bool false) (guard_ne _ _ _ _) HNE.out ?_)
      clear hcl
      go_wp2_with fail
      go_ret
      exact ⟨.inl ⟨done, [], HOK.out, _, rfl, HOW.out, HRW.out⟩, HFW.out⟩
    | cons c t =>
      have HNE : Hid (∀ W, (binOp .neq 9 (.string (txt (c :: t))) (.string ⟨#[]⟩)).run Tryz.prog W = .ok (.bool true) W) := fun W => ne_lit (c :: t) W
      have hfb := fun W => first_byte c t W
      by_cases hc : c = 10
      · subst hc
        have hfb : ∀ W, (Instr.index 9 (.string (txt (10 :: t))) (.int .i64 0)).run Tryz.prog W = .ok (.int .u8 10) W := hfb
        have HOK : Hid (exO L = some (done, 10 :: t)) := by show _ = _; rw [HEX.out]; simp [exG]
        go_wp2_with (first
          | refine wpList_eql (by rfl) .neq 9 _ _ _ rfl (.string (txt (10 :: t))) (.string ⟨#[]⟩) rfl rfl (.bool true) (guard_ne _ _ _ _) HNE.out ?_)
        clear hcl
        go_wp2_with fail
        go_ret
        exact ⟨.inl ⟨done, 10 :: t, HOK.out, _, rfl, HOW.out, HRW.out⟩, HFW.out⟩
      · have i1 : ¬ (c.toNat : Int) = 10 := fun h => hc (UInt8.toNat_inj.1 (by show c.toNat = 10; omega))
        have b1 : ((c.toNat : Int) != 10) = true := bne_iff_ne.2 i1
        have HEG : Hid (exG (f + 1) (c :: t) = match endX (c :: t) with
            | none => none
            | some n => match lineX ((c :: t).take n) with
              | none => none
              | some x => (exG f ((c :: t).drop (n + 1))).map fun (xs, r) => (x :: xs, r)) := by
          show _ = _
          conv => lhs; unfold exG
          rw [if_neg (by simp [hc])]
        have HEND := Lib.hid (endof_any (c :: t))
        clear hc
        generalize (c.toNat : Int) = ci at *
        go_wp2_with (first
          | refine wpList_eql (by rfl) .neq 9 _ _ _ rfl (.string (txt (c :: t))) (.string ⟨#[]⟩) rfl rfl (.bool true) (guard_ne _ _ _ _) HNE.out ?_)
        clear hfb i1 b1 HNE
        generalize c :: t = l at *
        refine (HEND.out wr (by have := HLL2.out; have := HLL.out; omega)).mono ?_
        rintro e w2 ⟨rfl, rfl⟩
        rename World => wr
        unfold endI
        cases hend : endX l with
        | none =>
          have HNO : Hid (exO L = none) := by show _ = _; rw [HEX.out, HEG.out, hend]; rfl
          clear hend
          dsimp only
          go_wp2_with fail
          refine (fail_any r (l, b) wr HRW.out).mono ?_
          rintro e w3 ⟨rfl, hr, hf⟩
          have HR3 := Lib.hid hr
          have HF3 := Lib.hid (HFW.out.trans hf)
          clear hr hf hcl
          go_wp2_with fail
          (try simp only [Exit.inBlock, Exit.then])
          go_ret
          exact ⟨.inr ⟨HNO.out, rfl, HR3.out⟩, HF3.out⟩
        | some n =>
          have HNL := Lib.hid (endX_lt hend)
          have HDR := Lib.hid (rd_len_x hend)
          rw [hend] at HEG
          clear hend
          dsimp only at HEG ⊢
          have hnlt : ¬ (n : Int) < 0 := by omega
          go_wp2_with fail
          clear hcl hnlt
          refine (take_any r n (l, b) wr HRW.out HNL.out (by have := HLL2.out; have := HLL.out; show l.length ≤ _; omega)).mono ?_
          rintro e w3 ⟨rfl, hr, hf⟩
          have HR3 := Lib.hid hr
          have HF3 := Lib.hid (HFW.out.trans hf)
          have HE3 := Lib.hid (HEW.out.frr hf)
          have HO3 := Lib.hid (HOW.out.frr hf HRB.out)
          clear hr hf HOW HRW HFW HEW
          dsimp only at HR3
          go_wp2_with fail
          have HTN : Hid ((l.take n).length ≤ 30000) := by show _ ≤ _; rw [List.length_take]; have := HLL2.out; have := HLL.out; omega
          refine (cutS_any (l.take n) [32] w3 HE3.out.env.env (by have := HTN.out; omega)).mono ?_
          rintro e w4 ⟨rfl, hb4⟩
          have HR4 := Lib.hid (HR3.out.below hb4)
          have HF4 := Lib.hid (HF3.out.trans (FrR.of (r := r) hb4))
          have HE4 := Lib.hid (HE3.out.below hb4)
          have HO4 := Lib.hid (HO3.out.below hb4)
          clear hb4 HR3 HF3 HE3 HO3
          have hcl2 := cutS_len (l.take n) [32]
          obtain ⟨KK, VV, b3, h3⟩ : ∃ N R' b, Lib.cut (l.take n) [32] = (N, R', b) := ⟨_, _, _, rfl⟩
          have HLX : Hid (lineX (l.take n) = if b3 = true then some (txt KK, txt (Lib.replaceAll VV [10, 32] [10])) else none) := by show _ = _; unfold lineX; rw [h3]
          rw [h3] at hcl2 ⊢
          dsimp only at hcl2 ⊢
          have HVL : Hid (VV.length ≤ 30000) := by have := HTN.out; show _ ≤ _; omega
          clear h3 hcl2
          cases b3
          · have HNO : Hid (exO L = none) := by show _ = _; rw [HEX.out, HEG.out, HLX.out]; rfl
            go_wp2_with fail
            refine (fail_any r _ w4 HR4.out).mono ?_
            rintro e w5 ⟨rfl, hr, hf⟩
            have HR5 := Lib.hid hr
            have HF5 := Lib.hid (HF4.out.trans hf)
            clear hr hf
            go_wp2_with fail
            (try simp only [Exit.inBlock, Exit.then])
            go_ret
            exact ⟨.inr ⟨HNO.out, rfl, HR5.out⟩, HF5.out⟩
          · have HGO : Hid (exO L = (exG f (l.drop (n + 1))).map (fun (xs, r) => ((done ++ [(txt KK, txt (Lib.replaceAll VV [10, 32] [10]))]) ++ xs, r))) := by
              show _ = _
              rw [HEX.out, HEG.out, HLX.out]
              cases exG f (l.drop (n + 1)) with
              | none => rfl
              | some p => simp
            obtain ⟨mx, hmx⟩ := HE4.out.env.env.most
            have HRA := Tryz.strings_ReplaceAll (txt VV) ⟨#[10, 32]⟩ ⟨#[10]⟩ mx w4 (by rw [txt_size]; have := HVL.out; omega) hmx (by decide) (by
              have := Lib.countB_le (⟨#[10, 32]⟩ : ByteArray) (by decide) _ (txt VV) (Nat.le_refl _)
              rw [txt_size] at this ⊢
              have := HVL.out
              show _ + _ * 1 ≤ _
              omega)
            rw [show (⟨(Lib.replaceAll (txt VV).data.toList (⟨#[10, 32]⟩ : ByteArray).data.toList (⟨#[10]⟩ : ByteArray).data.toList).toArray⟩ : ByteArray) = txt (Lib.replaceAll VV [10, 32] [10]) by rw [txt_list]; rfl] at HRA
            have HRA := Lib.hid HRA
            clear hmx
            go_wp2_with fail
            refine HRA.out.mono ?_
            rintro e w5 ⟨rfl, hb5⟩
            obtain ⟨V2, hV2⟩ : ∃ v, txt (Lib.replaceAll VV [10, 32] [10]) = v := ⟨_, rfl⟩
            obtain ⟨K2, hK2⟩ : ∃ v, txt KK = v := ⟨_, rfl⟩
            rw [hV2, hK2] at HGO
            simp only [hV2, hK2]
            have HR5 := Lib.hid (HR4.out.below hb5)
            have HF5 := Lib.hid (HF4.out.trans (FrR.of (r := r) hb5))
            have HO5 := Lib.hid (HO4.out.below hb5)
            clear hb5 HRA HR4 HF4 HO4 hV2 hK2
            have HBA : Hid (Below w5.heap.size w5 (w5.alloc (.cells (extE (K2, V2)).toArray 69))) := (Below.refl _ _).alloc (Nat.le_refl _) _
            have HOA := Lib.hid (HO5.out.below HBA.out)
            have HRA5 := Lib.hid (HR5.out.below HBA.out)
            have HFA5 := Lib.hid (HF5.out.trans (FrR.of (r := r) HBA.out))
            have HRW1 : Hid (∀ (j : Nat) y, [(K2, V2)][j]? = some y → (w5.alloc (.cells (extE (K2, V2)).toArray 69)).rangeAt w5.heap.size (0 + j * 2) (extE y)) := one_G w5 69 (K2, V2)
            have HDLB : Hid (done.length + 1 ≤ 100000) := by have := HDL.out; have := HLL.out; show _ ≤ _; omega
            have HWS : Hid (w.heap.size ≤ (w5.alloc (.cells (extE (K2, V2)).toArray 69)).heap.size) := HFA5.out.size
            have hsl1 := slice_G1 elem_cext (by decide) (by decide) (by decide) extE_len (K2, V2) (.agg (extE (K2, V2)).toArray) rfl w5
            go_wp2_with (first
              | refine wpList_buildQ rfl 69 _ rfl #[(0, .string K2), (1, .string V2)] (map_two _ _ _ _ _ rfl rfl) _ (build_cext K2 V2) ?_
              | refine wpList_slice rfl 32 1 #[(0, _)] rfl #[(0, .agg (extE (K2, V2)).toArray)] (map_one _ _ _ rfl) _ _ hsl1 ?_
              | (refine wpList_append_G elem_cext extE_len (by decide) (by decide) extE_one rfl _ _ rfl w.heap.size (.slice ga done.length gc) done done.length rfl rfl HOA.out w5.heap.size 0 1 1 [(K2, V2)] rfl (by decide) rfl HRW1.out (done.length + 1) (done ++ [(K2, V2)]) rfl rfl (by have := HDLB.out; omega) HWS.out ?_
                 rintro g2 gc2 w7 ho7 hg7 hgg hgl
                 have HO7 := Lib.hid ho7
                 have HF7 : Hid (FrR r w w7) := HFA5.out.grown hg7 (fun g hg => (HOA.out.lt hg).1)
                 have HR7 : Hid (RdAt w7 r (l.drop (n + 1), b)) := (hg7.block r HRA5.out.lt (fun e => by have := (HOA.out.lt e.symm).1; have := HRB.out; omega)).trans HRA5.out
                 clear ho7 hg7 hgg hgl))
            exact ⟨⟨f, done ++ [(K2, V2)], l.drop (n + 1), by have := HDR.out; have := HFU.out; omega, by have := HDR.out; have := HLL2.out; omega, by have := HDR.out; have := HDL.out; rw [List.length_append]; simp only [List.length_cons, List.length_nil]; omega, HGO.out, HR7.out, by first | exact HO7.out | (rw [List.length_append]; exact HO7.out), HF7.out⟩, by have h1 := HR7.out.sz; have h2 := HSZ.out; have h3 := HDR.out; (try simp only [h1, h2]); omega⟩
end Go.Proofs.YtkpiinjhcckhfaaGreatDoor
