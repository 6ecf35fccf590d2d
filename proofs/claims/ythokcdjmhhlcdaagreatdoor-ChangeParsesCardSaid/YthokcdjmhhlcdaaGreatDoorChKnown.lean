/- The chapter's example of changes: the walk. -/
import Derived.Test.YthokcdjmhhlcdaaGreatDoorChTo
import Derived.Test.YthokcdjmhhlcdaaGreatDoorChBase
namespace Go.Proofs.YthokcdjmhhlcdaaGreatDoor
open Go.RowKit Plain Go.ChangeShapes Go.WideShapes Go.ChangeAt Go.Great
set_option linter.unusedVariables false
set_option linter.unusedSimpArgs false
def kC : CX := ⟨zeros20, ⟨#[117]⟩, 0, 0, [(⟨#[98, 114, 97, 110, 99, 104]⟩, ⟨#[120, 10]⟩)], [⟨#[97]⟩], ⟨#[100]⟩⟩
def kTail : List UInt8 := [10, 117, 10, 48, 32, 48, 32, 98, 114, 97, 110, 99, 104, 58, 120, 92, 110, 10, 97, 10, 10, 100]
theorem kright : rightC kC = true := by decide +kernel
theorem klen : (printL kC).length = 62 := by decide +kernel
theorem kdrop : (printL kC).drop 40 = kTail := by decide +kernel
theorem kbyt : ∀ x ∈ kC.n, 0 ≤ x ∧ x ≤ 255 := fun z hz => by
  have h : zeros20.all (fun z => decide (0 ≤ z ∧ z ≤ 255)) = true := by decide +kernel
  simpa using List.all_eq_true.1 h z hz
theorem build_k (a b : Addr) (W : World) : (Instr.build 30 #[(1, .string ⟨#[117]⟩), (4, .slice (some a) 1 1), (5, .slice (some b) 1 1), (6, .string ⟨#[100]⟩)]).run Tryz.prog W = .ok (.agg (chV kC (some a) 1 (some b) 1)) W := run_build W _ _ _ (by kernel_rfl)
theorem map_four (a : Act) (x1 x4 x5 x6 : Operand) (v1 v4 v5 v6 : Value) (h1 : a.eval x1 = v1) (h4 : a.eval x4 = v4) (h5 : a.eval x5 = v5) (h6 : a.eval x6 = v6) : (#[(1, x1), (4, x4), (5, x5), (6, x6)] : Array (Nat × Operand)).map (fun (i, x) => (i, a.eval x)) = #[(1, v1), (4, v4), (5, v5), (6, v6)] := by simp [h1, h4, h5, h6]
theorem tiny_k : ChTiny kC := ⟨by decide +kernel, by decide +kernel, by decide +kernel, by decide +kernel, fun x hx => by
  obtain rfl : x = (⟨#[98, 114, 97, 110, 99, 104]⟩, ⟨#[120, 10]⟩) := by simpa [kC] using hx
  exact ⟨by decide +kernel, by decide +kernel⟩, fun p hp => by
  obtain rfl : p = ⟨#[97]⟩ := by simpa [kC] using hp
  decide +kernel, by decide +kernel, by decide +kernel⟩
theorem nums_drop (l : List UInt8) (k : Nat) : strOfNums ((numsOf (txt l)).drop k) = txt (l.drop k) := by
  have : (numsOf (txt l)).drop k = numsOf (txt (l.drop k)) := by
    unfold numsOf
    rw [txt_list, txt_list, List.map_drop]
  rw [this, str_nums]
set_option maxRecDepth 100000 in
set_option maxHeartbeats 16000000 in
theorem chknown_any (w : World) (hE : EnvC w) : Calls Tryz.prog 9 #[] w fun e w' => e = .returned (.bool true) ∧ Below w.heap.size w w' := by
  have HE := Lib.hid hE
  clear hE
  have HW1 : Hid (Below w.heap.size w ((w.alloc (.cells (extE (⟨#[98, 114, 97, 110, 99, 104]⟩, ⟨#[120, 10]⟩)).toArray 48)).alloc (.cells (strE ⟨#[97]⟩).toArray 9))) := ((Below.refl _ _).alloc (Nat.le_refl _) _).alloc (by simp) _
  have HAT : Hid (ChAt ((w.alloc (.cells (extE (⟨#[98, 114, 97, 110, 99, 104]⟩, ⟨#[120, 10]⟩)).toArray 48)).alloc (.cells (strE ⟨#[97]⟩).toArray 9)) kC (some ⟨w.heap.size, 0, none⟩) 1 (some ⟨w.heap.size + 1, 0, none⟩) 1) := by
    refine ⟨czero_20, kbyt, .inr ⟨w.heap.size, 0, rfl, by simp; omega, fun j y hj => ?_⟩, .inr ⟨w.heap.size + 1, 0, rfl, by simp, fun j y hj => ?_⟩, fun e => by cases e⟩
    · exact range_below (n := w.heap.size + 1) (one_G w _ _ j y hj) ((Below.refl _ _).alloc (by simp) _) (by omega)
    · have := one_G (k := 1) (enc := strE) (w.alloc (.cells (extE (⟨#[98, 114, 97, 110, 99, 104]⟩, ⟨#[120, 10]⟩)).toArray 48)) 9 (⟨#[97]⟩ : ByteArray) j y hj
      rw [show (w.alloc (.cells (extE (⟨#[98, 114, 97, 110, 99, 104]⟩, ⟨#[120, 10]⟩)).toArray 48)).heap.size = w.heap.size + 1 by simp] at this
      exact this
  have hbu := fun W => build_k ⟨w.heap.size, 0, none⟩ ⟨w.heap.size + 1, 0, none⟩ W
  have hzc := zero_ch
  go_enter Tryz.func9, Tryz.ntmps9
  go_wp2_with (first
    | refine wpList_buildQ rfl 30 #[(1, _), (4, _), (5, _), (6, _)] rfl #[(1, .string ⟨#[117]⟩), (4, .slice (some ⟨w.heap.size, 0, none⟩) 1 1), (5, .slice (some ⟨w.heap.size + 1, 0, none⟩) 1 1), (6, .string ⟨#[100]⟩)] (map_four _ _ _ _ _ _ _ _ _ rfl rfl rfl rfl) (.agg (chV kC (some ⟨w.heap.size, 0, none⟩) 1 (some ⟨w.heap.size + 1, 0, none⟩) 1)) hbu ?_)
  refine (chprint_any kC (some ⟨w.heap.size, 0, none⟩) 1 (some ⟨w.heap.size + 1, 0, none⟩) 1 ((w.alloc (.cells (extE (⟨#[98, 114, 97, 110, 99, 104]⟩, ⟨#[120, 10]⟩)).toArray 48)).alloc (.cells (strE ⟨#[97]⟩).toArray 9)) HAT.out tiny_k (HE.out.below HW1.out)).mono ?_
  rintro e w2 ⟨hpr, hb⟩
  have HW2 := Lib.hid (HW1.out.trans (hb.mono HW1.out.size))
  rcases hpr with ⟨-, pa, pc, rfl, hcap, hby⟩ | ⟨hrt, -⟩
  rotate_left
  · rw [kright] at hrt; cases hrt
  rw [klen] at hby hcap ⊢
  have HBY := Lib.hid hby
  have HCAP := Lib.hid hcap
  clear hb hbu HAT HW1
  go_wp2_with fail
  refine (chparse_any pa 62 pc (printL kC) w2 HBY.out (by omega) (HE.out.below HW2.out)).mono ?_
  rintro e w3 ⟨hpo, hb⟩
  rw [parse_print (c := kC) czero_20 kbyt kright] at hpo
  obtain ⟨ya, yc, za, zc, rfl, hat⟩ := hpo
  have HW3 := Lib.hid (HW2.out.trans (hb.mono HW2.out.size))
  have HB3 := Lib.hid (HBY.out.below hb)
  have HZ3 : Hid ((w3.alloc (.cells (chA czero (.slice none 0 0) (.slice none 0 0)) 30)).heap[w3.heap.size]? = some (.cells (chA czero (.slice none 0 0) (.slice none 0 0)) 30 (0, 0))) := heap_alloc_new _ _
  have HBS : Hid (Below w3.heap.size w3 ((w3.alloc (.cells (chA czero (.slice none 0 0) (.slice none 0 0)) 30)).setRow w3.heap.size (chV kC ya yc za zc))) := below_setRow ((Below.refl _ _).alloc (Nat.le_refl _) _) (Nat.le_refl _) _
  have HR4 : Hid (ChRow ((w3.alloc (.cells (chA czero (.slice none 0 0) (.slice none 0 0)) 30)).setRow w3.heap.size (chV kC ya yc za zc)) w3.heap.size kC (.slice ya 1 yc) (.slice za 1 zc)) := ChRow.of (setRow_heap _ _ _ _ _ _ HZ3.out) czero_20
  have hr1 := HR4.out.exts
  have hr2 := HR4.out.desc
  have HB4 := Lib.hid (HB3.out.below HBS.out)
  have HT4 : Hid ((convert 33 9 (.slice (subA pa pc 40) 22 (pc - 40))).run Tryz.prog ((w3.alloc (.cells (chA czero (.slice none 0 0) (.slice none 0 0)) 30)).setRow w3.heap.size (chV kC ya yc za zc)) = .ok (.string (txt kTail)) ((w3.alloc (.cells (chA czero (.slice none 0 0) (.slice none 0 0)) 30)).setRow w3.heap.size (chV kC ya yc za zc))) := by
    have hp := HB4.out.part pc 40 62 (by omega) (Nat.le_refl _) HCAP.out
    have := text_run _ (subA pa pc 40) 22 (pc - 40) _ hp
    rw [List.take_of_length_le (by rw [List.length_drop, HB4.out.1]; decide), nums_drop, kdrop] at this
    exact this
  have ht4 := HT4.out
  have hslf : ∀ W, (Instr.sliceAt 33 (.slice pa 62 pc) (some (.int .i64 40)) none none).run Tryz.prog W = .ok (.slice (subA pa pc 40) 22 (pc - 40)) W := slice_from pa 62 pc 40 (by omega) HCAP.out
  obtain ⟨sa, hsa⟩ : ∃ s, subA pa pc 40 = s := ⟨_, rfl⟩
  obtain ⟨sc, hsc⟩ : ∃ s, pc - 40 = s := ⟨_, rfl⟩
  rw [hsa, hsc] at ht4
  simp only [hsa, hsc] at hslf
  clear hsa hsc HT4
  have HQ1 := Lib.hid (eq_self (txt kTail))
  have HQ2 := Lib.hid (eq_self ⟨#[100]⟩)
  clear hb hby hcap hat HB3 HBY
  go_wp2_with (first
    | refine wpList_store_row rfl 30 _ _ rfl w3.heap.size (chV kC ya yc za zc) rfl rfl 30 (chA czero (.slice none 0 0) (.slice none 0 0)) HZ3.out (info_chA kC _ _ czero_20) (by unfold chV; rw [chA_size _ _ _ czero_20, chA_size kC _ _ czero_20]) (chA_one _ _ _ rfl rfl) ?_
    | refine wpList_eql (by rfl) .eql 9 _ _ _ rfl (.string (txt kTail)) (.string (txt kTail)) rfl rfl (.bool true) (guard_eq _ _ _ _) HQ1.out ?_
    | refine wpList_eql (by rfl) .eql 9 _ _ _ rfl (.string ⟨#[100]⟩) (.string ⟨#[100]⟩) rfl rfl (.bool true) (guard_eq _ _ _ _) HQ2.out ?_)
  go_ret
  exact ⟨rfl, HW3.out.trans (HBS.out.mono HW3.out.size)⟩
end Go.Proofs.YthokcdjmhhlcdaaGreatDoor
