/- The reader of a commit: begins, take, fail, value: the walks. -/
import Derived.Test.YtindmggmblmmcaaDoorCoPrint
namespace Go.Proofs.YtindmggmblmmcaaDoor
open Go.RowKit Plain Go.ChangeShapes Go.WideShapes Go.ChangeAt Go.Great
set_option linter.unusedVariables false
set_option linter.unusedSimpArgs false
/-- Nothing that lay there is changed, but for one block. -/
structure FrR (r : Nat) (w w' : World) : Prop where
  os : w'.os = w.os
  tape : w'.tape = w.tape
  output : w'.output = w.output
  size : w.heap.size ≤ w'.heap.size
  block : ∀ k, k < w.heap.size → k ≠ r → w'.heap[k]? = w.heap[k]?
theorem FrR.below {r B : Nat} {w w' : World} (h : FrR r w w') (hr : B ≤ r) (hB : B ≤ w.heap.size) : Below B w w' := ⟨h.os, h.tape, h.output, h.size, fun k hk => h.block k (by omega) (by omega)⟩
theorem FrR.of {r : Nat} {w w' : World} (h : Below w.heap.size w w') : FrR r w w' := ⟨h.os, h.tape, h.output, h.size, fun k hk _ => h.block k hk⟩
theorem FrR.trans {r : Nat} {a b c : World} (h1 : FrR r a b) (h2 : FrR r b c) : FrR r a c := ⟨h2.os.trans h1.os, h2.tape.trans h1.tape, h2.output.trans h1.output, Nat.le_trans h1.size h2.size, fun k hk hn => (h2.block k (Nat.lt_of_lt_of_le hk h1.size) hn).trans (h1.block k hk hn)⟩
theorem FrR.setCell (r o : Nat) (v : Value) (w : World) : FrR r w (w.setCell ⟨r, o, none⟩ v) := ⟨rfl, rfl, rfl, by simp [World.setCell], fun k hk hn => heap_setCell_ne w ⟨r, o, none⟩ v k hn⟩
theorem FrR.refl (r : Nat) (w : World) : FrR r w w := ⟨rfl, rfl, rfl, Nat.le_refl _, fun _ _ _ => rfl⟩
/-- What is left to be read, and whether a part was not there. -/
abbrev St := List UInt8 × Bool
def RdAt (w : World) (r : Nat) (s : St) : Prop := w.heap[r]? = some (.cells #[.string (txt s.1), .bool s.2] 63 (0, 0))
theorem RdAt.lt {w : World} {r : Nat} {s : St} (h : RdAt w r s) : r < w.heap.size := (Array.getElem?_eq_some_iff.1 h).1
theorem RdAt.below {w w' : World} {r : Nat} {s : St} (h : RdAt w r s) (hb : Below w.heap.size w w') : RdAt w' r s := (hb.block r h.lt).trans h
theorem RdAt.left {w : World} {r : Nat} {s : St} (h : RdAt w r s) : w.cell? ⟨r, 0, none⟩ = some (.string (txt s.1)) := by rw [cell_of_row _ _ _ _ _ _ h]; rfl
theorem RdAt.wrong {w : World} {r : Nat} {s : St} (h : RdAt w r s) : w.cell? ⟨r, 1, none⟩ = some (.bool s.2) := by rw [cell_of_row _ _ _ _ _ _ h]; rfl
theorem RdAt.set0 {w : World} {r : Nat} {s : St} (h : RdAt w r s) (l : List UInt8) : RdAt (w.setCell ⟨r, 0, none⟩ (.string (txt l))) r (l, s.2) := (heap_setCell_same w r 0 _ _ _ h).trans rfl
theorem RdAt.set1 {w : World} {r : Nat} {s : St} (h : RdAt w r s) (b : Bool) : RdAt (w.setCell ⟨r, 1, none⟩ (.bool b)) r (s.1, b) := (heap_setCell_same w r 1 _ _ _ h).trans rfl
theorem slice_fr (l : List UInt8) (n : Nat) (h : n ≤ l.length) (W : World) : (Instr.slice 9 (.string (txt l)) none (some (.int .i64 (n : Int))) none).run Tryd.prog W = .ok (.string (txt (l.take n))) W := by
  have ht := Tryd.underlying9
  have hs := txt_size l
  have e : (txt l).extract 0 n = txt (l.take n) := bytes_ext (by rw [extract_list, txt_list, txt_list])
  rw [← e]
  simp [Instr.slice, run_underlying ht, Instr.sliceBounds, run_sliceBound, hs, h]
theorem txt_drop (l : List UInt8) (n : Nat) : (txt l).extract n (txt l).size = txt (l.drop n) := bytes_ext (by rw [tail_of, txt_list, txt_list])
theorem slice_tl (l : List UInt8) (lo : Nat) (h : lo ≤ l.length) (x : Int) (hx : x = (lo : Int)) (W : World) : (Instr.slice 9 (.string (txt l)) (some (.int .i64 x)) none none).run Tryd.prog W = .ok (.string (txt (l.drop lo))) W := by
  rw [slice_tail (txt l) lo (by rw [txt_size]; exact h) x hx W]
  congr 2
  exact bytes_ext (by rw [tail_of, txt_list, txt_list])
set_option maxRecDepth 100000 in
set_option maxHeartbeats 4000000 in
theorem take_any (r n : Nat) (s : St) (w : World) (h : RdAt w r s) (hn : n + 1 ≤ s.1.length) (hl : s.1.length ≤ 1000000) :
    Calls Tryd.prog 37 #[.pointer (some ⟨r, 0, none⟩), .int .i64 (n : Int)] w fun e w' => e = .returned (.string (txt (s.1.take n))) ∧ RdAt w' r (s.1.drop (n + 1), s.2) ∧ FrR r w w' := by
  have HR := Lib.hid h
  have hcl := h.left
  have hfo := frozen_of_row w r 0 _ _ h
  have hs1 := fun W => slice_fr s.1 n (by omega) W
  have hs2 := fun W => slice_tl s.1 (n + 1) hn ((n + 1 : Nat) : Int) rfl W
  have hle : n + 1 ≤ (txt s.1).size := by rw [txt_size]; exact hn
  have hex : (txt s.1).extract (n + 1) (txt s.1).size = txt (s.1.drop (n + 1)) := txt_drop s.1 (n + 1)
  have hw1 : wrap64 ((n : Int) + 1) = ((n + 1 : Nat) : Int) := next_int n (by omega) _ rfl
  have HR2 := Lib.hid (h.set0 (s.1.drop (n + 1)))
  have HF2 := Lib.hid (FrR.setCell r 0 (.string (txt (s.1.drop (n + 1)))) w)
  clear h hn hl
  go_enter Tryd.func37, Tryd.ntmps37
  go_wp2_with fail
  go_ret
  exact ⟨rfl, HR2.out, HF2.out⟩
set_option maxRecDepth 100000 in
set_option maxHeartbeats 4000000 in
theorem fail_any (r : Nat) (s : St) (w : World) (h : RdAt w r s) :
    Calls Tryd.prog 33 #[.pointer (some ⟨r, 0, none⟩)] w fun e w' => e = .returned (.tuple #[]) ∧ RdAt w' r ([], true) ∧ FrR r w w' := by
  have hcl := h.wrong
  have hfo := frozen_of_row w r 1 _ _ h
  have h1 := h.set1 true
  have HF1 := Lib.hid (FrR.setCell r 1 (.bool true) w)
  have hcl2 := h1.left
  have hfo2 := frozen_of_row _ r 0 _ _ h1
  have HR2 := Lib.hid (h1.set0 [])
  have HF2 := Lib.hid (HF1.out.trans (FrR.setCell r 0 (.string (txt [])) _))
  clear h h1
  go_enter Tryd.func33, Tryd.ntmps33
  go_wp2_with fail
  refine bodyPost_end (results_none rfl _ _ _) rfl ?_
  exact ⟨rfl, HR2.out, HF2.out⟩
set_option maxRecDepth 100000 in
set_option maxHeartbeats 4000000 in
theorem begins_any (r g : Nat) (k : List UInt8) (s : St) (w : World) (h : RdAt w r s) (hk : w.cell? ⟨g, 0, none⟩ = some (.string (txt k))) (hkl : k.length ≤ 1000) :
    Calls Tryd.prog 19 #[.pointer (some ⟨r, 0, none⟩), .slice (some ⟨g, 0, none⟩) 1 1] w fun e w' => e = .returned (.bool (Lib.hasPrefix s.1 (k ++ [32]))) ∧ w' = w := by
  have HL := Lib.hid h.left
  have HK := Lib.hid hk
  have HA : Hid (∀ W, (binOp .add 9 (.string (txt k)) (.string ⟨#[32]⟩)).run Tryd.prog W = .ok (.string (txt (k ++ [32]))) W) := fun W => add_txt _ _ _ (by rw [txt_list]) (by rw [txt_size]; show _ + 1 ≤ _; omega) W
  have hp := fun W => Tryd.strings_HasPrefix (txt s.1) (txt (k ++ [32])) W
  simp only [txt_list] at hp
  have HP := Lib.hid hp
  obtain ⟨b, hb⟩ : ∃ b, Lib.hasPrefix s.1 (k ++ [32]) = b := ⟨_, rfl⟩
  rw [hb]
  simp only [hb] at HP
  clear h hk hkl hp hb
  go_enter Tryd.func19, Tryd.ntmps19
  go_wp2_with fail
  go_loopw [9] (fun i wr => ∃ k : Nat, k ≤ 1 ∧ i = .int .i64 (k : Int) ∧ wr = w ∧ (k = 1 → b = false)) (fun i _ => 1 - (intOf i).toNat)
  case atStart => exact ⟨0, by omega, rfl, rfl, fun h => by omega⟩
  case round =>
    obtain ⟨j, hj, rfl, rfl, hbj⟩ := hrel
    have HBJ := Lib.hid hbj
    clear hbj
    have hL := HL.out
    have hK := HK.out
    rcases (by omega : j = 0 ∨ j = 1) with rfl | rfl
    · go_wp2_with (first
        | refine wpList_eql (by rfl) .add 9 _ _ _ rfl (.string (txt k)) (.string ⟨#[32]⟩) rfl rfl (.string (txt (k ++ [32]))) (guard_addn _ _ _ _) HA.out ?_)
      clear hL hK
      refine (HP.out _).mono ?_
      rintro e w2 ⟨rfl, rfl⟩
      cases b
      · go_wp2_with fail
        exact ⟨⟨1, by omega, by trivial, by trivial, fun _ => by trivial⟩, by simp [intOf]⟩
      · go_wp2_with fail
        (try simp only [Exit.inBlock, Exit.then])
        go_ret
        exact ⟨rfl, rfl⟩
    · have hbf := HBJ.out rfl
      subst hbf
      go_wp2_with fail
      go_ret
      exact ⟨rfl, rfl⟩
/-- What a line behind a key tells, and what stands behind it. -/
def valO (k l : List UInt8) : Option (List UInt8 × List UInt8) :=
  if 0 ≤ Lib.indexByte l 10 ∧ Lib.hasPrefix l (k ++ [32]) = true then some ((l.take (Lib.indexByte l 10).toNat).drop (k.length + 1), l.drop ((Lib.indexByte l 10).toNat + 1)) else none
def valS (k : List UInt8) (s : St) : List UInt8 × St := match valO k s.1 with
  | some (v, l) => (v, (l, s.2))
  | none => ([], ([], true))
theorem nl_lt {l : List UInt8} (h : 0 ≤ Lib.indexByte l 10) : (Lib.indexByte l 10).toNat < l.length ∧ l[(Lib.indexByte l 10).toNat]? = some 10 := by
  induction l with
  | nil => simp [Lib.indexByte] at h
  | cons c l ih =>
    unfold Lib.indexByte at h ⊢
    by_cases hc : (c == 10) = true
    · rw [if_pos hc]
      have := eq_of_beq hc
      subst this
      exact ⟨by simp, rfl⟩
    · rw [if_neg hc] at h ⊢
      by_cases hm : (Lib.indexByte l 10 == -1) = true
      · rw [if_pos hm] at h; omega
      · rw [if_neg hm] at h ⊢
        have hge := Lib.indexByte_ge l 10
        have hm2 : ¬ Lib.indexByte l 10 = -1 := fun e => hm (beq_iff_eq.2 e)
        obtain ⟨h1, h2⟩ := ih (by omega)
        have e : (Lib.indexByte l 10 + 1).toNat = (Lib.indexByte l 10).toNat + 1 := by omega
        rw [e]
        exact ⟨by rw [List.length_cons]; omega, by rw [List.getElem?_cons_succ]; exact h2⟩
theorem key_le {k l : List UInt8} (hk : 10 ∉ k) (h : 0 ≤ Lib.indexByte l 10) (hp : Lib.hasPrefix l (k ++ [32]) = true) : k.length + 1 ≤ (Lib.indexByte l 10).toNat := by
  obtain ⟨h1, h2⟩ := nl_lt h
  unfold Lib.hasPrefix at hp
  obtain ⟨r, rfl⟩ := List.isPrefixOf_iff_prefix.1 hp
  refine Nat.le_of_not_lt fun hlt => ?_
  rw [List.getElem?_append_left (by rw [List.length_append]; exact hlt)] at h2
  have := List.mem_of_getElem? h2
  rcases List.mem_append.1 this with h3 | h3
  · exact hk h3
  · simp at h3
theorem valS_len (k : List UInt8) (s : St) : (valS k s).1.length ≤ s.1.length ∧ (valS k s).2.1.length ≤ s.1.length := by
  unfold valS valO
  split
  · rename_i v l h
    split at h
    · simp only [Option.some.injEq, Prod.mk.injEq] at h
      obtain ⟨rfl, rfl⟩ := h
      simp only [List.length_drop, List.length_take]
      omega
    · cases h
  · simp
set_option maxRecDepth 100000 in
set_option maxHeartbeats 8000000 in
theorem value_any (r : Nat) (k : List UInt8) (s : St) (w : World) (h : RdAt w r s) (hk : 10 ∉ k) (hkl : k.length ≤ 1000) (hl : s.1.length ≤ 1000000) :
    Calls Tryd.prog 32 #[.pointer (some ⟨r, 0, none⟩), .string (txt k)] w fun e w' => e = .returned (.string (txt (valS k s).1)) ∧ RdAt w' r (valS k s).2 ∧ FrR r w w' := by
  have HR := Lib.hid h
  have HKL := Lib.hid hkl
  have HLL := Lib.hid hl
  have hix := Tryd.strings_IndexByte (txt s.1) 10 w
  rw [txt_list] at hix
  have hix : Calls Tryd.prog 44 #[.string (txt s.1), .int .u8 10] w fun e w' => e = .returned (.int .i64 (Lib.indexByte s.1 10)) ∧ w' = w := hix
  have HIX := Lib.hid hix
  have hcl := h.left
  have htk := txt_size k
  clear h hl hix hkl
  by_cases hn : 0 ≤ Lib.indexByte s.1 10
  rotate_left
  · have HV : Hid (valS k s = ([], ([], true))) := by show _ = _; unfold valS valO; rw [if_neg fun hh => hn hh.1]
    have hlt : Lib.indexByte s.1 10 < 0 := by omega
    generalize Lib.indexByte s.1 10 = ix at *
    go_enter Tryd.func32, Tryd.ntmps32
    go_wp2_with fail
    clear hcl
    refine HIX.out.mono ?_
    rintro e w' ⟨rfl, rfl⟩
    go_wp2_with fail
    refine (fail_any r s _ HR.out).mono ?_
    rintro e w2 ⟨rfl, hr, hf⟩
    have HR2 := Lib.hid hr
    have HF2 := Lib.hid hf
    clear hr hf
    go_wp2_with fail
    go_ret
    rw [HV.out]
    exact ⟨rfl, HR2.out, HF2.out⟩
  have HNL := Lib.hid (nl_lt hn)
  have HKE := Lib.hid fun hp => key_le hk hn hp
  obtain ⟨b, hb⟩ : ∃ b, Lib.hasPrefix s.1 (k ++ [32]) = b := ⟨_, rfl⟩
  have HBP := Lib.hid hb
  obtain ⟨n, hnn⟩ : ∃ n : Nat, Lib.indexByte s.1 10 = (n : Int) := ⟨(Lib.indexByte s.1 10).toNat, by omega⟩
  have HVO : Hid (valS k s = match (if b = true then some ((s.1.take n).drop (k.length + 1), s.1.drop (n + 1)) else none : Option (List UInt8 × List UInt8)) with | some (v, l) => (v, (l, s.2)) | none => ([], ([], true))) := by
    show _ = _
    unfold valS valO
    rw [hnn, hb]
    simp
  have HN : Hid (n + 1 ≤ s.1.length ∧ (b = true → k.length + 1 ≤ n)) := by
    have h1 := HNL.out.1
    have h2 := HKE.out
    rw [hnn] at h1 h2
    rw [hb] at h2
    have h3 : n < s.1.length := by simpa using h1
    exact ⟨h3, by simpa using h2⟩
  rw [hnn] at HIX
  have hlt : ¬ (n : Int) < 0 := by omega
  have HST : Hid (∀ W : World, RdAt W r s → RdAt (W.alloc (.cells #[.string (txt k)] 9)) r s) := fun W hW => hW.below ((Below.refl _ _).alloc (Nat.le_refl _) _)
  have HNC : Hid (∀ W : World, (W.alloc (.cells #[.string (txt k)] 9)).cell? ⟨W.heap.size, 0, none⟩ = some (.string (txt k))) := fun W => by rw [cell_of_row _ _ _ _ _ _ (heap_alloc_new W _)]; rfl
  have hss := fun W => slice_str (txt k) W
  clear hk hn hb HNL HKE hnn
  go_enter Tryd.func32, Tryd.ntmps32
  go_wp2_with fail
  clear hcl
  refine HIX.out.mono ?_
  rintro e w' ⟨rfl, rfl⟩
  rename World => w
  go_wp2_with (first
    | refine wpList_slice rfl 71 1 #[(0, _)] rfl #[(0, .string (txt k))] (map_one _ _ _ rfl) _ _ (slice_str _ w) ?_)
  refine (begins_any r w.heap.size k s _ (HST.out w HR.out) (HNC.out w) HKL.out).mono ?_
  rintro e w2 ⟨rfl, hw2⟩
  rw [HBP.out]
  have HR2 : Hid (RdAt w2 r s) := by rw [hw2]; exact HST.out w HR.out
  have HF2 : Hid (FrR r w w2) := by rw [hw2]; exact FrR.of ((Below.refl _ _).alloc (Nat.le_refl _) _)
  clear hw2
  cases b
  · have HV : Hid (valS k s = ([], ([], true))) := HVO.out
    go_wp2_with fail
    refine (fail_any r s w2 HR2.out).mono ?_
    rintro e w3 ⟨rfl, hr, hf⟩
    have HR3 := Lib.hid hr
    have HF3 := Lib.hid (HF2.out.trans hf)
    clear hr hf
    go_wp2_with fail
    go_ret
    rw [HV.out]
    exact ⟨rfl, HR3.out, HF3.out⟩
  · have HV : Hid (valS k s = ((s.1.take n).drop (k.length + 1), (s.1.drop (n + 1), s.2))) := HVO.out
    go_wp2_with fail
    refine (take_any r n s w2 HR2.out HN.out.1 HLL.out).mono ?_
    rintro e w3 ⟨rfl, hr, hf⟩
    have HR3 := Lib.hid hr
    have HF3 := Lib.hid (HF2.out.trans hf)
    clear hr hf
    have hs2 := fun W => slice_tl (s.1.take n) (k.length + 1) (by have := HN.out.1; have := HN.out.2 (by trivial); rw [List.length_take]; omega) ((k.length + 1 : Nat) : Int) rfl W
    have hle : k.length + 1 ≤ (txt (s.1.take n)).size := by have := HN.out.1; have := HN.out.2 (by trivial); rw [txt_size, List.length_take]; omega
    have hex : (txt (s.1.take n)).extract (k.length + 1) (txt (s.1.take n)).size = txt ((s.1.take n).drop (k.length + 1)) := txt_drop _ _
    have hw1 : wrap64 ((k.length : Int) + 1) = ((k.length + 1 : Nat) : Int) := next_int k.length (by have := HKL.out; omega) _ rfl
    go_wp2_with fail
    go_ret
    rw [HV.out]
    exact ⟨rfl, HR3.out, HF3.out⟩
end Go.Proofs.YtindmggmblmmcaaDoor
