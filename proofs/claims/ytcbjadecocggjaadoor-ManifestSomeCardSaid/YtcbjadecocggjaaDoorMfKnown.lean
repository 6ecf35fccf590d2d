/- The chapter's example of files: the walk. -/
import Derived.Test.YtcbjadecocggjaaDoorMfRefParse
import Derived.Test.YtcbjadecocggjaaDoorNums
namespace Go.Proofs.YtcbjadecocggjaaDoor
open Go.RowKit Plain
set_option linter.unusedVariables false
set_option linter.unusedSimpArgs false
theorem eq_self (s : ByteArray) (W : World) : (binOp .eql 9 (.string s) (.string s)).run Tryd.prog W = .ok (.bool true) W := by
  rw [str_eql, beq_self_eq_true]
theorem files_box (w : World) (xs : List MF) (t : TypeId) (h : ∀ x ∈ xs, x.n.length = 20) : FsAt (w.alloc (.cells (flatF xs).toArray t)) (some ⟨w.heap.size, 0, none⟩) xs := by
  refine ⟨h, .inr ⟨w.heap.size, 0, rfl, by simp, fun j x hj i v hv => ?_⟩⟩
  have hi : i < 22 := by
    have := (List.getElem?_eq_some_iff.1 hv).1
    rw [fileL_len x (h x (List.mem_of_getElem? hj))] at this; exact this
  rw [cell_of_row _ _ _ _ _ _ (heap_alloc_new w _), Nat.zero_add, List.getElem?_toArray, flatF_get xs j i x h hj hi, hv]
def kf1 : MF := ⟨⟨#[97]⟩, zeros20, ⟨#[120]⟩⟩
def kf2 : MF := ⟨⟨#[98, 47, 99]⟩, zeros20, ⟨#[]⟩⟩
def kf3 : MF := ⟨⟨#[98]⟩, zeros20, ⟨#[]⟩⟩
theorem good_zero (p f : ByteArray) : GoodF ⟨p, zeros20, f⟩ := ⟨zeros20_len, fun z hz => by
  have h : zeros20.all (fun z => decide (0 ≤ z ∧ z ≤ 255)) = true := by decide +kernel
  simpa using List.all_eq_true.1 h z hz⟩
theorem kgood12 : ∀ x ∈ [kf1, kf2], GoodF x := fun x hx => by
  simp only [List.mem_cons, List.not_mem_nil, or_false] at hx
  rcases hx with rfl | rfl <;> exact good_zero _ _
theorem kgood32 : ∀ x ∈ [kf3, kf2], GoodF x := fun x hx => by
  simp only [List.mem_cons, List.not_mem_nil, or_false] at hx
  rcases hx with rfl | rfl <;> exact good_zero _ _
theorem kright12 : rightM [kf1, kf2] = true := by decide +kernel
theorem kright32 : rightM [kf3, kf2] = false := by decide +kernel
theorem klen : (textF [kf1, kf2]).length = 89 := by decide +kernel
theorem MfPrint.yes {e : Ending} {w' : World} {xs : List MF} (h : MfPrint e w' xs) (hr : rightM xs = true) : ∃ a c, e = .returned (.tuple #[.slice a (textF xs).length c, .int .i64 0]) ∧ Bytes w' a (textF xs).length (numsOf (txt (textF xs))) := by
  unfold MfPrint at h
  rwa [if_pos hr] at h
theorem MfPrint.no {e : Ending} {w' : World} {xs : List MF} (h : MfPrint e w' xs) (hr : rightM xs = false) : e = .returned (.tuple #[.slice none 0 0, .int .i64 4]) := by
  unfold MfPrint at h
  rwa [if_neg (by rw [hr]; decide)] at h
set_option maxRecDepth 100000 in
set_option maxHeartbeats 16000000 in
theorem known_any (w : World) (hE : Env w) : Calls Tryd.prog 10 #[] w fun e w' => e = .returned (.bool true) ∧ Below w.heap.size w w' := by
  have HE := Lib.hid hE
  clear hE
  have HG12 := Lib.hid kgood12
  have HG32 := Lib.hid kgood32
  have HFS := Lib.hid (files_box w [kf1, kf2] 32 (fun x hx => (HG12.out x hx).1))
  have HW1 : Hid (Below w.heap.size w (w.alloc (.cells (flatF [kf1, kf2]).toArray 32))) := (Below.refl _ _).alloc (Nat.le_refl _) _
  go_enter Tryd.func10, Tryd.ntmps10
  go_wp2_with fail
  refine (mfprint_any (some ⟨w.heap.size, 0, none⟩) 2 [kf1, kf2] (w.alloc (.cells (flatF [kf1, kf2]).toArray 32)) HFS.out (by simp) HG12.out (HE.out.below HW1.out)).mono ?_
  rintro e w2 ⟨hpo, hb⟩
  obtain ⟨xa, xc, rfl, hbt⟩ := hpo.yes kright12
  have HW2 := Lib.hid (HW1.out.trans (hb.mono HW1.out.size))
  rw [klen] at hbt
  have HBT := Lib.hid hbt
  have hRB := read_back HG12.out kright12
  rw [klen]
  clear hpo hb hbt HFS HW1
  obtain ⟨T, hT⟩ : ∃ T, textF [kf1, kf2] = T := ⟨_, rfl⟩
  rw [hT] at HBT hRB
  have HRB := Lib.hid hRB
  clear hT hRB
  go_wp2_with fail
  refine (mfparse_any xa 89 xc _ w2 HBT.out (HE.out.below HW2.out) (by omega)).mono ?_
  rintro e w3 ⟨hpo, hb⟩
  rw [str_nums, txt_list, HRB.out] at hpo
  obtain ⟨ya, yc, rfl, hown⟩ := hpo
  have HW3 := Lib.hid (HW2.out.trans (hb.mono HW2.out.size))
  have HO := Lib.hid hown
  clear hown hb HBT HRB HW2
  have HFS := Lib.hid (files_box w3 [kf3, kf2] 32 (fun x hx => (HG32.out x hx).1))
  have hb4 : Below w3.heap.size w3 (w3.alloc (.cells (flatF [kf3, kf2]).toArray 32)) := (Below.refl _ _).alloc (Nat.le_refl _) _
  have HW4 := Lib.hid (HW3.out.trans (hb4.mono HW3.out.size))
  have HO4 := Lib.hid (HO.out.below hb4)
  clear hb4 HO HW3
  go_wp2_with fail
  refine (mfprint_any (some ⟨w3.heap.size, 0, none⟩) 2 [kf3, kf2] (w3.alloc (.cells (flatF [kf3, kf2]).toArray 32)) HFS.out (by simp) HG32.out (HE.out.below HW4.out)).mono ?_
  rintro e w5 ⟨hpo, hb⟩
  obtain rfl := hpo.no kright32
  have HW5 := Lib.hid (HW4.out.trans (hb.mono HW4.out.size))
  have HO5 := Lib.hid (HO4.out.below hb)
  clear hpo hb HW4 HO4 HFS
  obtain ⟨b, off, x, e1, hx, h20, hbl, hrg⟩ := (HO5.out.fs.1).at (k := 0) (by simp)
  simp only [List.getElem?_cons_zero, Option.some.injEq] at hx
  subst hx
  subst e1
  have hcf := range_flag hrg h20
  have hcf : w5.cell? ⟨b, off + 0 * 22 + 21, none⟩ = some (.string ⟨#[120]⟩) := hcf
  rw [Nat.zero_mul, Nat.add_zero] at hcf
  have HQS := Lib.hid (eq_self ⟨#[120]⟩)
  clear hrg h20 hbl
  go_wp2_with (first
    | refine wpList_eql (by rfl) .eql 9 _ _ _ rfl (.string ⟨#[120]⟩) (.string ⟨#[120]⟩) rfl rfl (.bool true) (guard_eq _ _ _ _) HQS.out ?_)
  go_ret
  exact ⟨rfl, HW5.out⟩
end Go.Proofs.YtcbjadecocggjaaDoor
