/- A change's files; its time, zone and extras: the walks. -/
import Derived.Test.YthokcdjmhhlcdaaGreatDoorChRead
namespace Go.Proofs.YthokcdjmhhlcdaaGreatDoor
open Go.RowKit Go.Shelf Plain
set_option linter.unusedVariables false
set_option linter.unusedSimpArgs false
def sliceLen : Value → Nat
  | .slice _ n _ => n
  | _ => 0
theorem cut_rest_lt {l : List UInt8} (h : (Lib.cut l [10]).1 ≠ []) : (Lib.cut l [10]).2.1.length < l.length := by
  rcases cut_or 10 l with hn | ⟨A, B, rfl, hA⟩
  · rw [cut_not _ _ hn] at h ⊢
    cases l with
    | nil => exact absurd rfl h
    | cons a l => simp
  · rw [cut_at _ _ _ hA]
    simp; omega
theorem FrR.grown {r : Nat} {w wr w' : World} {v : Value} (h : FrR r w wr) (hg : wr.grownBy w' v.ownBlock) (hv : ∀ g, v.ownBlock = some g → w.heap.size ≤ g) : FrR r w w' :=
  ⟨hg.os.trans h.os, hg.tape.trans h.tape, hg.output.trans h.output, Nat.le_trans h.size hg.size, fun k hk hn => (hg.block k (Nat.lt_of_lt_of_le hk h.size) (fun e => by have := hv k e.symm; omega)).trans (h.block k hk hn)⟩
theorem slice_str (a : ByteArray) (W : World) : (Instr.buildSlice 24 1 #[(0, .string a)]).run Tryz.prog W = .ok (.slice (some ⟨W.heap.size, 0, none⟩) 1 1) (W.alloc (.cells #[.string a] 9)) := by
  obtain ⟨hu, i, z, hi, hz, h1, -, h3⟩ := elem_str
  refine run_buildSlice W _ _ _ _ _ i _ hu hi hz (by rw [h1]; decide) (by rw [h1]; decide) ?_
  rw [h1]
  have := Go.Great.fill_whole (s := 1) (by omega) [Value.string a] (Array.map (fun x => z.cells[x % z.cells.size]!) (Array.range (1 * 1))) (fun v hv => by simp at hv; subst hv; rfl) (by simp)
  simpa [Value.cells] using this
theorem one_str (W : World) (a : ByteArray) : ∀ (j : Nat) y, [a][j]? = some y → (W.alloc (.cells #[.string a] 9)).rangeAt W.heap.size (0 + j * 1) (strE y) := fun j y hj => by
  have h0 : j = 0 := by
    have := (List.getElem?_eq_some_iff.1 hj).1
    simp at this; omega
  subst h0
  obtain rfl : a = y := by simpa using hj
  intro i v hv
  have hi : i = 0 := by
    have := (List.getElem?_eq_some_iff.1 hv).1
    rw [strE_len] at this; omega
  subst hi
  rw [cell_of_row _ _ _ _ _ _ (heap_alloc_new W _)]
  have hv' : v = .string a := by simpa [strE] using hv.symm
  subst hv'
  rfl
theorem neq_empty (l : List UInt8) (W : World) : (binOp .neq 9 (.string (txt l)) (.string ⟨#[]⟩)).run Tryz.prog W = .ok (.bool (!l.isEmpty)) W := by
  rw [ne_str (txt l) ⟨#[]⟩ l.isEmpty (by
    rw [Lib.toList_data, Lib.toList_data, txt_list]
    cases l <;> rfl) W]
theorem filesP_end {l : List UInt8} (k : Nat) (h : (Lib.cut l [10]).1 = []) : filesP k l = ([], (Lib.cut l [10]).2.1) := by
  cases k with
  | zero => rw [filesP]
  | succ k => rw [filesP, if_pos h]
theorem filesP_more {l : List UInt8} (k : Nat) (h : (Lib.cut l [10]).1 ≠ []) : filesP (k + 1) l = (txt (Lib.cut l [10]).1 :: (filesP k (Lib.cut l [10]).2.1).1, (filesP k (Lib.cut l [10]).2.1).2) := by
  rw [filesP, if_neg h]
set_option maxRecDepth 100000 in
set_option maxHeartbeats 8000000 in
theorem rdfiles_any (r : Nat) (l : List UInt8) (w w0 : World) (h : RdAt w r l) (hl : l.length ≤ 500000) (hE : EnvC w0) (hb0 : Below w0.heap.size w0 w) (hr0 : w0.heap.size ≤ r) :
    Calls Tryz.prog 27 #[.pointer (some ⟨r, 0, none⟩)] w fun e w' => (∃ v, e = .returned v ∧ OwnG 1 strE 9 w' w.heap.size v (filesP l.length l).1 ∧ ((filesP l.length l).1 = [] → v = .slice none 0 0)) ∧ RdAt w' r (filesP l.length l).2 ∧ FrR r w w' := by
  have HEW : Hid (∀ w', FrR r w w' → EnvC w') := fun w' hf => hE.below (hb0.trans (hf.below hr0 hb0.size))
  have HLT := Lib.hid h.lt
  have HLB := Lib.hid hl
  obtain ⟨n0, hn0⟩ : ∃ n, l.length = n := ⟨_, rfl⟩
  have HN0 := Lib.hid hn0
  obtain ⟨fs, hfs⟩ : ∃ x, (filesP l.length l).1 = x := ⟨_, rfl⟩
  obtain ⟨rs, hrs⟩ : ∃ x, (filesP l.length l).2 = x := ⟨_, rfl⟩
  have HFS : Hid (filesP n0 l = (fs, rs)) := by show _ = _; rw [← hn0, ← hfs, ← hrs]
  rw [hfs, hrs]
  have HLI := Lib.hid (line_any r l w h (by omega) (hE.below hb0).env)
  clear h hl hE hn0 hb0 hr0 hfs hrs
  go_enter Tryz.func27, Tryz.ntmps27
  go_wp2_with fail
  refine HLI.out.mono ?_
  rintro e w1 ⟨rfl, hr, hf⟩
  have HR1 := Lib.hid hr
  have HF1 := Lib.hid hf
  clear hr hf HLI
  go_wp2_with fail
  go_loopw [3, 4] (fun lv cv wr => ∃ (acc : List ByteArray) (L : List UInt8) (k : Nat), OwnG 1 strE 9 wr w.heap.size lv acc ∧ (acc = [] → lv = .slice none 0 0) ∧ cv = .string (txt (Lib.cut L [10]).1) ∧ RdAt wr r (Lib.cut L [10]).2.1 ∧ L.length ≤ k ∧ acc.length + L.length ≤ n0 ∧ filesP n0 l = (acc ++ (filesP k L).1, (filesP k L).2) ∧ FrR r w wr) (fun lv _ _ => 1000000 - sliceLen lv)
  case atStart => exact ⟨[], l, n0, OwnG.nil _ _ _, fun _ => rfl, rfl, HR1.out, by rw [HN0.out]; exact Nat.le_refl _, by rw [HN0.out]; simp, by simp, HF1.out⟩
  case round =>
    obtain ⟨acc, L, k, hown, hnil, rfl, hrd, hlk, hal, hfp, hfr⟩ := hrel
    obtain ⟨la, lc, rfl⟩ := hown.shape
    have HO := Lib.hid hown
    have HNIL := Lib.hid hnil
    have HRD := Lib.hid hrd
    have HLK := Lib.hid hlk
    have HAL := Lib.hid hal
    have HFP := Lib.hid hfp
    have HFR := Lib.hid hfr
    obtain ⟨m, hm⟩ : ∃ m, acc.length = m := ⟨_, rfl⟩
    rw [hm] at HO HAL HNIL ⊢
    have HM := Lib.hid hm
    have HNE := Lib.hid (fun W => neq_empty (Lib.cut L [10]).1 W)
    clear hown hnil hrd hlk hal hfp hfr hm HR1 HF1
    by_cases hc : (Lib.cut L [10]).1 = []
    · have HEND := Lib.hid (HFP.out.symm.trans HFS.out)
      rw [filesP_end k hc] at HEND
      have he1 : acc = fs := by have := congrArg Prod.fst HEND.out; simpa using this
      have he2 : (Lib.cut L [10]).2.1 = rs := congrArg Prod.snd HEND.out
      subst he1 he2
      have HNF : Hid (∀ W, (binOp .neq 9 (.string (txt (Lib.cut L [10]).1)) (.string ⟨#[]⟩)).run Tryz.prog W = .ok (.bool false) W) := fun W => by rw [HNE.out, hc]; rfl
      clear hc HEND
      go_wp2_with (first
        | refine wpList_eql (by rfl) .neq 9 _ _ _ rfl (.string (txt (Lib.cut L [10]).1)) (.string ⟨#[]⟩) rfl rfl (.bool false) (guard_ne _ _ _ _) (fun W => HNF.out W) ?_)
      go_ret
      exact ⟨⟨_, rfl, HO.out, HNIL.out⟩, HRD.out, HFR.out⟩
    · have HNT : Hid (∀ W, (binOp .neq 9 (.string (txt (Lib.cut L [10]).1)) (.string ⟨#[]⟩)).run Tryz.prog W = .ok (.bool true) W) := fun W => by
        rw [HNE.out]
        cases hq : (Lib.cut L [10]).1 with
        | nil => exact absurd hq hc
        | cons a q => rfl
      have HLL := Lib.hid (cut_rest_lt hc)
      obtain ⟨k', rfl⟩ : ∃ k', k = k' + 1 := ⟨k - 1, by have := HLK.out; have := HLL.out; omega⟩
      have HFM := Lib.hid (filesP_more k' hc)
      obtain ⟨A, hA⟩ : ∃ A, txt (Lib.cut L [10]).1 = A := ⟨_, rfl⟩
      rw [hA] at HNT HFM ⊢
      have HRL := Lib.hid (show (Lib.cut L [10]).2.1.length ≤ 1000000 by have h1 := HLL.out; have h2 := HAL.out; have h3 := HLB.out; have h4 := HN0.out; omega)
      obtain ⟨R, hR⟩ : ∃ R, (Lib.cut L [10]).2.1 = R := ⟨_, rfl⟩
      rw [hR] at HFM HRD HRL HLL
      have HOA := Lib.hid (HO.out.below ((Below.refl wr.heap.size wr).alloc (Nat.le_refl _) (.cells #[.string A] 9)))
      have HFA : Hid (FrR r w (wr.alloc (.cells #[.string A] 9))) := HFR.out.trans (FrR.of ((Below.refl _ _).alloc (Nat.le_refl _) _))
      have HRA : Hid (RdAt (wr.alloc (.cells #[.string A] 9)) r R) := HRD.out.below ((Below.refl _ _).alloc (Nat.le_refl _) _)
      clear hc HNE hA hR
      go_wp2_with (first
        | refine wpList_eql (by rfl) .neq 9 _ _ _ rfl (.string A) (.string ⟨#[]⟩) rfl rfl (.bool true) (guard_ne _ _ _ _) (fun W => HNT.out W) ?_
        | refine wpList_slice rfl 24 1 #[(0, _)] rfl #[(0, .string A)] (map_one _ _ _ rfl) _ _ (slice_str _ wr) ?_
        | (refine wpList_append_G elem_str strE_len (by decide) (by decide) strE_one rfl _ _ rfl w.heap.size (.slice la m lc) acc m HM.out rfl HOA.out wr.heap.size 0 1 1 [A] rfl (by decide) rfl (one_str wr _) (m + 1) (acc ++ [A]) rfl rfl (by have h1 := HLL.out; have h2 := HAL.out; have h3 := HLB.out; have h4 := HN0.out; omega) HFA.out.size ?_
           rintro g2 gc2 w7 ho7 hg7 hgg hgl
           have HO7 := Lib.hid ho7
           have HF7 : Hid (FrR r w w7) := HFA.out.grown hg7 (fun g hg => (HOA.out.lt hg).1)
           have HR7 : Hid (RdAt w7 r R) := (hg7.block r HRA.out.lt (fun e => by have h1 := (HOA.out.lt e.symm).1; have h2 := HLT.out; omega)).trans HRA.out
           clear ho7 hg7 hgg hgl))
      refine (line_any r R w7 HR7.out HRL.out (HEW.out w7 HF7.out).env).mono ?_
      rintro e w8 ⟨rfl, hr8, hf8⟩
      have HR8 := Lib.hid hr8
      have HF8 := Lib.hid (HF7.out.trans hf8)
      have HO8 : Hid (OwnG 1 strE 9 w8 w.heap.size (.slice (some ⟨g2, 0, none⟩) (m + 1) gc2) (acc ++ [A])) := by
        obtain ⟨q1, ⟨q2, -⟩ | ⟨g, cap, cur, q3, q4, q5, q6⟩⟩ := HO7.out
        · cases q2
        · refine ⟨q1, .inr ⟨g, cap, cur, q3, q4, (hf8.block g (Array.getElem?_eq_some_iff.1 q5).1 (by have := HLT.out; omega)).trans q5, q6⟩⟩
      clear hr8 hf8 HO7
      go_wp2_with fail
      refine ⟨⟨acc ++ [A], R, k', HO8.out, fun e => by simp at e, rfl, HR8.out, by have := HLK.out; have := HLL.out; omega, by have h1 := HLL.out; have h2 := HAL.out; rw [List.length_append, HM.out]; simp; omega, ?_, HF8.out⟩, ?_⟩
      · rw [HFP.out, HFM.out]; simp
      · have h2 := HAL.out; have h3 := HLB.out; have h4 := HN0.out; show 1000000 - (m + 1) < 1000000 - m; omega
end Go.Proofs.YthokcdjmhhlcdaaGreatDoor
