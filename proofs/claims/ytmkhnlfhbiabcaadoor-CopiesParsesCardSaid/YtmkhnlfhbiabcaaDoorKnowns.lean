/- The chapter's example of copies: the walk. -/
import Derived.Test.YtmkhnlfhbiabcaaDoorParses
namespace Go.Proofs.YtmkhnlfhbiabcaaDoor
open Go.RowKit Plain Go.ChangeShapes Go.WideShapes Go.ChangeAt
set_option linter.unusedVariables false
set_option linter.unusedSimpArgs false
theorem lit_row (w : World) (xs : List Int) (n : Nat) (hn : xs.length = n) (hx : ∀ x ∈ xs, 0 ≤ x ∧ x ≤ 255) (hl : n ≤ 1000) (t : TypeId) (fr : Nat × Nat) : RowB (w.alloc (.cells (xs.map (Value.int .u8)).toArray t fr)) (some ⟨w.heap.size, 0, none⟩) n n xs := by
  have h := heap_alloc_new w (.cells (xs.map (Value.int .u8)).toArray t fr)
  refine ⟨Nat.le_refl _, by omega, fun e => (by cases e), ⟨hn, by omega, range_of_mem hx, .inr ⟨w.heap.size, 0, rfl, ?_⟩⟩⟩
  intro i hi
  rw [cell_of_row _ _ _ _ _ _ h, Nat.zero_add, List.getElem?_toArray, List.getElem?_map, List.getElem?_eq_getElem (by omega)]
  rfl
def one20 : List Int := [1, 0, 0, 0, 0, 0, 0, 0, 0, 0, 0, 0, 0, 0, 0, 0, 0, 0, 0, 0]
theorem build_one (W : World) : (Instr.build 26 #[(0, .int .u8 1)]).run Tryd.prog W = .ok (.agg (V8 one20)) W := by kernel_rfl
theorem wpList_build_c {P : Program} {w : World} {ops : Array Oper} {rest : List Oper} {o : Oper} {a : Act} {Q : Exit → Act → World → Prop} (hw : Region.wanted o (yielded ops a.tmps) = true) (ty : TypeId) (x : Value) (ho : o.op = .build ty #[(0, .const x)])
    (v : Value) (hr : ∀ W, (Instr.build ty #[(0, x)]).run P W = .ok v W) (h : wpList P ops Q rest (a.put o.dst v) w) : wpList P ops Q (o :: rest) a w :=
  wpList_build hw ty _ ho #[(0, x)] (by simp [Act.eval]) v hr h
theorem known1 : printL [1, 10] ⟨#[]⟩ zeros20 = some [1, 10, 1, 10, 1, 10] := by decide +kernel
theorem known2 : ∃ ys, printL [120] ⟨#[97]⟩ one20 = some ys ∧ ys.length = 63 := by
  have h : (printL [120] ⟨#[97]⟩ one20).map (·.length) = some 63 := by decide +kernel
  obtain ⟨ys, h1, h2⟩ := Option.map_eq_some_iff.1 h
  exact ⟨ys, h1, h2⟩
theorem known3 : parseL [1, 10, 120] = none := by decide +kernel
theorem known_str : strOfNums [1, 10, 1, 10, 1, 10] = ⟨#[1, 10, 1, 10, 1, 10]⟩ := by decide +kernel
set_option maxRecDepth 100000 in
set_option maxHeartbeats 16000000 in
theorem known_any (w : World) (hE : Env w) : Calls Tryd.prog 12 #[] w fun e w' => e = .returned (.bool true) ∧ Below w.heap.size w w' := by
  have hcs := conv_same
  have hzf := zero_from
  have HE := Lib.hid hE
  clear hE
  go_enter Tryd.func12, Tryd.ntmps12
  go_wp2_with (first
    | refine wpList_build_0 rfl 28 rfl (.agg (fromA ⟨#[]⟩ zeros20)) build_none ?_)
  have HR := Lib.hid (lit_row w [1, 10] 2 rfl (by decide) (by decide) 5 (2, 3))
  have HB1 : Hid (Below w.heap.size w (w.alloc (.cells #[.int .u8 1, .int .u8 10] 5 (2, 3)))) := (Below.refl _ _).alloc (Nat.le_refl _) _
  simp only [List.map_cons, List.map_nil] at HR
  generalize w.alloc (.cells #[.int .u8 1, .int .u8 10] 5 (2, 3)) = w1 at *
  refine (print_any (some ⟨w.heap.size, 0, none⟩) 2 2 [1, 10] ⟨#[]⟩ zeros20 w1 (HE.out.below HB1.out) HR.out (by decide) rfl (by decide)).mono ?_
  rintro e w2 ⟨hpo, hb⟩
  rw [known1] at hpo
  obtain ⟨xa, xc, rfl, hm⟩ := hpo
  have HX := Lib.hid (hm.row (range_of_mem (by decide)))
  have HB2 := Lib.hid (HB1.out.trans (hb.mono HB1.out.size))
  clear hm hb HB1 HR
  have H1 : Hid (([1, 10, 1, 10, 1, 10] : List Int).length = 6) := rfl
  rw [H1.out] at HX ⊢
  clear H1
  go_wp2_with (first
    | refine wpList_build_c rfl 26 (.int .u8 1) rfl (.agg (V8 one20)) build_one ?_
    | refine wpList_build_2 rfl 28 _ _ rfl (.string ⟨#[97]⟩) (.agg (V8 one20)) rfl rfl (.agg (fromA ⟨#[97]⟩ one20)) (build_from ⟨#[97]⟩ one20 rfl) ?_)
  have HR := Lib.hid (lit_row w2 [120] 1 rfl (by decide) (by decide) 5 (1, 2))
  have hb3 : Below w2.heap.size w2 (w2.alloc (.cells #[.int .u8 120] 5 (1, 2))) := (Below.refl _ _).alloc (Nat.le_refl _) _
  have HB3 := Lib.hid (HB2.out.trans (hb3.mono HB2.out.size))
  have HX3 := Lib.hid (HX.out.below hb3)
  simp only [List.map_cons, List.map_nil] at HR
  clear hb3 HX
  generalize w2.alloc (.cells #[.int .u8 120] 5 (1, 2)) = w3 at *
  obtain ⟨ys, k1, k2⟩ := known2
  refine (print_any (some ⟨w2.heap.size, 0, none⟩) 1 1 [120] ⟨#[97]⟩ one20 w3 (HE.out.below HB3.out) HR.out (by decide) rfl (by decide)).mono ?_
  rintro e w4 ⟨hpo, hb⟩
  rw [k1] at hpo
  obtain ⟨ya, yc, rfl, hm⟩ := hpo
  rw [k2]
  have HB4 := Lib.hid (HB3.out.trans (hb.mono HB3.out.size))
  have HX4 := Lib.hid (HX3.out.below hb)
  clear k1 k2 hm hb HB3 HX3 HR HB2
  go_wp2_with fail
  have HR := Lib.hid (lit_row w4 [1, 10, 120] 3 rfl (by decide) (by decide) 5 (3, 4))
  have hb5 : Below w4.heap.size w4 (w4.alloc (.cells #[.int .u8 1, .int .u8 10, .int .u8 120] 5 (3, 4))) := (Below.refl _ _).alloc (Nat.le_refl _) _
  have HB5 := Lib.hid (HB4.out.trans (hb5.mono HB4.out.size))
  have HX5 := Lib.hid (HX4.out.below hb5)
  simp only [List.map_cons, List.map_nil] at HR
  clear hb5 HX4
  generalize w4.alloc (.cells #[.int .u8 1, .int .u8 10, .int .u8 120] 5 (3, 4)) = w5 at *
  refine (cParse_any (some ⟨w4.heap.size, 0, none⟩) 3 3 [1, 10, 120] w5 HR.out (HE.out.below HB5.out) (by decide)).mono ?_
  rintro e w6 ⟨hpo, hb⟩
  rw [known3] at hpo
  obtain rfl : e = _ := hpo
  have HB6 := Lib.hid (HB5.out.trans (hb.mono HB5.out.size))
  have HX6 := Lib.hid (HX5.out.below hb)
  clear hb HB5 HX5 HR HB4
  have HZN : Hid ((w6.alloc (.cells (fromA ⟨#[]⟩ zeros20) 28)).heap[w6.heap.size]? = some (.cells (fromA ⟨#[]⟩ zeros20) 28 (0, 0))) := heap_alloc_new _ _
  have HI : Hid ((Tryd.prog.info? 28).map (·.size) = some (fromA ⟨#[]⟩ zeros20).size) := from_info _ _ rfl
  have hb7 : Below w6.heap.size w6 ((w6.alloc (.cells (fromA ⟨#[]⟩ zeros20) 28)).setRow w6.heap.size (fromA ⟨#[]⟩ zeros20)) := below_setRow ((Below.refl _ _).alloc (Nat.le_refl _) _) (Nat.le_refl _) _
  have HB7 := Lib.hid (HB6.out.trans (hb7.mono HB6.out.size))
  have htx := text_run _ xa 6 xc _ (HX6.out.below hb7).bytes
  rw [known_str] at htx
  have HQS := Lib.hid (fun W => str_eql ⟨#[1, 10, 1, 10, 1, 10]⟩ ⟨#[1, 10, 1, 10, 1, 10]⟩ W)
  clear hb7
  go_wp2_with (first
    | refine wpList_store_row rfl 28 _ _ rfl w6.heap.size (fromA ⟨#[]⟩ zeros20) rfl rfl 28 (fromA ⟨#[]⟩ zeros20) HZN.out HI.out rfl (fromA_one _ _) ?_
    | refine wpList_eql rfl .eql 9 _ _ _ rfl (.string ⟨#[1, 10, 1, 10, 1, 10]⟩) (.string ⟨#[1, 10, 1, 10, 1, 10]⟩) rfl rfl (.bool true) (guard_str _ _ _ _) HQS.out ?_)
  go_ret
  exact ⟨rfl, HB7.out⟩
end Go.Proofs.YtmkhnlfhbiabcaaDoor
